// Package digest: the digest of bytes, reckoned as they come.
package digest

import "keystone/api"

const (
	first  uint64 = 0x6b657973746f6e65
	factor uint64 = 0x9e3779b97f4a7c15
)

// Mix is a digest under way. It takes strings and lists where they lie, so
// that none of them is copied, joined or kept.
type Mix struct {
	x, count uint64
}

// Of is the digest of bytes.
func Of(b []byte) string { return Begin().Bytes(b).End() }

// Begin begins a digest with numbers of one byte each.
func Begin(numbers ...byte) Mix { return Mix{x: first}.Bytes(numbers) }

// Bytes takes in the bytes of a list.
func (m Mix) Bytes(b []byte) Mix {
	for _, c := range b {
		m = m.take(c)
	}
	return m
}

// Text takes in the bytes of a string.
func (m Mix) Text(s string) Mix {
	for i := range len(s) {
		m = m.take(s[i])
	}
	return m
}

// End is the digest of all that was taken in.
func (m Mix) End() string {
	x := (m.x ^ m.count) * factor
	x ^= x >> 32
	var out [api.DigestSize]byte
	for i := range out {
		out[i] = byte(x >> (8 * i))
	}
	return string(out[:])
}

func (m Mix) take(c byte) Mix {
	x := (m.x ^ uint64(c)) * factor
	return Mix{x: x ^ x>>29, count: m.count + 1}
}
