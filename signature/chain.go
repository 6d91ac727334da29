package signature

import (
	"keystone/api"
	"keystone/digest"
)

// What a digest is of, told by its first byte, so that a thing of one kind
// can't stand for one of another.
const (
	kindLink   = 1
	kindFirst  = 2
	kindLeaf   = 3
	kindAbove  = 4
	kindDigits = 6
)

const lastLink = 15

// digits has a link's number for each chain of a leaf.
type digits [api.Chains]int

// ends has the last link of each chain of a leaf.
type ends [api.Chains]string

// seedLink is the link of a chain that has the number k.
func seedLink(seed string, leaf, chain byte, k int) string {
	link := digest.Begin(kindFirst, leaf, chain).Text(seed).End()
	return walk(link, leaf, chain, 0, k)
}

// walk goes on along a chain, from the link numbered from to that numbered to.
func walk(link string, leaf, chain byte, from, to int) string {
	for k := from + 1; k <= to; k++ {
		link = digest.Begin(kindLink, leaf, chain, byte(k)).Text(link).End()
	}
	return link
}

// digitsOf has the digits of bytes under a leaf.
func digitsOf(leaf byte, b []byte) digits {
	return split(digest.Begin(kindDigits, leaf).Bytes(b).End())
}

// split makes digits of a digest. The last two tell what the others lack:
// whoever walks one of those on would have to walk one of these back.
func split(d string) digits {
	var out digits
	lack := 0
	for i := range api.DigestSize {
		low, high := int(d[i]&15), int(d[i]>>4)
		out[2*i], out[2*i+1] = low, high
		lack += 2*lastLink - low - high
	}
	out[api.Chains-2], out[api.Chains-1] = lack>>4, lack&15
	return out
}
