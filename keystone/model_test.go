package keystone

// A second reckoning by the document's words, by other ways than the program:
// all is joined to one string first, and the tree is gone down from its top.

import (
	"math/big"
	"slices"
	"strings"

	"keystone/api"
)

// model is D: strings as they are, numbers as one byte.
func model(parts ...any) string {
	joined := ""
	for _, p := range parts {
		switch v := p.(type) {
		case int:
			joined += string([]byte{byte(v)})
		case string:
			joined += v
		}
	}
	return modelDigest(joined)
}

func modelDigest(s string) string {
	x := new(big.Int).SetUint64(0x6b657973746f6e65)
	for _, c := range []byte(s) {
		x = modelStep(x, int64(c), 29)
	}
	x = modelStep(x, int64(len(s)), 32)
	out := make([]byte, 8)
	x.FillBytes(out)
	for i := range 4 {
		out[i], out[7-i] = out[7-i], out[i]
	}
	return string(out)
}

func modelStep(x *big.Int, with int64, shift uint) *big.Int {
	k := new(big.Int).SetUint64(0x9e3779b97f4a7c15)
	round := new(big.Int).Lsh(big.NewInt(1), 64)
	x = new(big.Int).Xor(x, big.NewInt(with))
	x.Mul(x, k).Mod(x, round)
	return x.Xor(x, new(big.Int).Rsh(x, shift))
}

func modelLink(seed string, leaf, chain, k int) string {
	if k == 0 {
		return model(2, leaf, chain, seed)
	}
	return model(1, leaf, chain, k, modelLink(seed, leaf, chain, k-1))
}

// modelNode is the node above the leaves from low on, below high.
func modelNode(seed string, low, high int) string {
	if high-low > 1 {
		middle := (low + high) / 2
		return model(4, modelNode(seed, low, middle), modelNode(seed, middle, high))
	}
	parts := []any{3, low}
	for chain := range 18 {
		parts = append(parts, modelLink(seed, low, chain, 15))
	}
	return model(parts...)
}

func modelDigits(leaf int, b string) []int {
	var out []int
	lack := 0
	for _, c := range []byte(model(6, leaf, b)) {
		out = append(out, int(c)%16, int(c)/16)
		lack += 15 - int(c)%16 + 15 - int(c)/16
	}
	return append(out, lack/16, lack%16)
}

// modelSign is the signature of b; a leaf's node is beside one leaf, the next
// beside two, the last beside four.
func modelSign(seed string, leaf int, b string) string {
	out := string([]byte{byte(leaf)})
	for chain, k := range modelDigits(leaf, b) {
		out += modelLink(seed, leaf, chain, k)
	}
	for _, size := range []int{1, 2, 4} {
		low := leaf / size * size
		if low/size%2 == 0 {
			low += size
		} else {
			low -= size
		}
		out += modelNode(seed, low, low+size)
	}
	return out
}

// modelOutcome is the key that comes out of 169 bytes, whatever they are: for
// a first byte that is no leaf's number too.
func modelOutcome(b, sign string) string {
	leaf := int(sign[0])
	parts := []any{3, leaf}
	for chain, k := range modelDigits(leaf, b) {
		link := sign[1+8*chain : 9+8*chain]
		for k < 15 {
			k++
			link = model(1, leaf, chain, k, link)
		}
		parts = append(parts, link)
	}
	node := model(parts...)
	for i := range 3 {
		beside := sign[145+8*i : 153+8*i]
		if leaf>>i&1 == 0 {
			node = model(4, node, beside)
		} else {
			node = model(4, beside, node)
		}
	}
	return node
}

// modelBoot is a boot by the document's words, one core behind the other. Only
// Verify is the program's own, which other tests hold against modelOutcome.
func modelBoot(flash, key string, fuse int, faults []int, cut int) api.Report {
	r := api.Report{Register: strings.Repeat("\x00", 8), Fuse: fuse}
	m, n, ok := modelUnpack(flash)
	switch {
	case len(flash) > 65536 || !ok || len(flash) < n+169:
		r.Err = api.ErrManifest
	case modelFaulty(faults, 0, n+169):
		r.Err = api.ErrRead
	case !Verify(key, []byte(flash[:n]), flash[n:n+169]):
		r.Err = api.ErrSign
	case m.Version < fuse:
		r.Err = api.ErrOld
	}
	if r.Err != api.OK {
		return r
	}
	var starts []api.Start
	for core, p := range m.Parts {
		code := api.ErrRead
		if p.Off+p.Len <= len(flash) && !modelFaulty(faults, p.Off, p.Off+p.Len) {
			image := flash[p.Off : p.Off+p.Len]
			measured := modelDigest(image)
			r.Log = append(r.Log, api.Entry{Core: core, Digest: measured})
			r.Register = model(5, core, r.Register, measured)
			starts = append(starts, api.Start{Core: core, At: p.At, Image: image})
			code = api.OK
			if measured != p.Digest {
				code = api.ErrDigest
			}
		}
		r.Codes = append(r.Codes, code)
		if r.Err == api.OK {
			r.Err = code
		}
	}
	if r.Err != api.OK {
		return r
	}
	if cut != 1 && m.Version > fuse {
		r.Fuse = m.Version
	}
	if cut == 1 || cut == 2 {
		r.Err = api.ErrCut
		return r
	}
	r.Starts = starts
	return r
}

// modelFaulty asks each address, not each fault.
func modelFaulty(faults []int, from, to int) bool {
	for at := from; at < to; at++ {
		if slices.Contains(faults, at) {
			return true
		}
	}
	return false
}
