// Package signature: keys and signatures, by hash chains and a tree of hashes.
package signature

import (
	"strings"

	"keystone/api"
)

// besides is how many nodes a signature has behind its links.
const besides = (api.SignSize-1)/api.DigestSize - api.Chains

// Key is the key of a seed.
func Key(seed string) string {
	nodes := leafNodes(seed)
	for len(nodes) > 1 {
		nodes = levelAbove(nodes)
	}
	return nodes[0]
}

// Sign makes the signature of bytes with a leaf of a seed.
func Sign(seed string, leaf int, b []byte) (string, api.Errno) {
	if !isLeaf(leaf) {
		return "", api.ErrLeaf
	}
	return build(seed, byte(leaf), b), api.OK
}

// Verify tells whether a signature of bytes leads to the key.
func Verify(key string, b []byte, sign string) bool {
	if len(sign) != api.SignSize || !isLeaf(int(sign[0])) {
		return false
	}
	return reckonKey(b, sign) == key
}

func isLeaf(leaf int) bool { return leaf >= 0 && leaf < api.Leaves }

// build writes a signature's bytes.
func build(seed string, leaf byte, b []byte) string {
	var out strings.Builder
	out.WriteByte(leaf)
	for chain, k := range digitsOf(leaf, b) {
		out.WriteString(seedLink(seed, leaf, byte(chain), k))
	}
	place := int(leaf)
	for nodes := leafNodes(seed); len(nodes) > 1; nodes = levelAbove(nodes) {
		out.WriteString(nodes[place^1])
		place /= 2
	}
	return out.String()
}

// reckonKey is the key to which a signature of the right form leads.
func reckonKey(b []byte, sign string) string {
	leaf := sign[0]
	node := leafNode(leaf, reckonEnds(leaf, b, sign))
	place := int(leaf)
	for i := range besides {
		node = nodeAboveAt(place, node, piece(sign, api.Chains+i))
		place /= 2
	}
	return node
}

// reckonEnds walks each link of a signature on to its chain's end.
func reckonEnds(leaf byte, b []byte, sign string) ends {
	var e ends
	for chain, k := range digitsOf(leaf, b) {
		e[chain] = walk(piece(sign, chain), leaf, byte(chain), k, lastLink)
	}
	return e
}

// piece is the i-th of the links and nodes behind a signature's first byte.
func piece(sign string, i int) string {
	from := 1 + i*api.DigestSize
	return sign[from : from+api.DigestSize]
}
