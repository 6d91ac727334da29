package keystone

import (
	"bytes"
	"encoding/binary"
	"math"
	"math/rand"
	"reflect"
	"slices"
	"strings"
	"sync"
	"testing"

	"keystone/api"
)

const examplePacked = "KS\x02\x01\x01\x2c\x01\x04\x00\x01\x00abcdefgh"

// noWords: numbers that don't stand in a word.
var noWords = []int{-1, 65536, 65537, -65535, -65536, 1 << 17, math.MaxInt32, math.MinInt32, 1 << 32, math.MaxInt, math.MinInt}

func example() api.Manifest { return oneOf(258, api.Part{Off: 300, Len: 4, At: 1, Digest: "abcdefgh"}) }

func oneOf(version int, parts ...api.Part) api.Manifest {
	return api.Manifest{Version: version, Parts: parts}
}

// manyParts: n right parts that all differ.
func manyParts(n int) []api.Part {
	var out []api.Part
	for i := range n {
		out = append(out, api.Part{Off: 0x1234 + i, Len: 0x0201 + i<<8, At: 0x0102 + i, Digest: string(rune('a'+i)) + "\x00\xff45678"})
	}
	return out
}

// packedHead and packedPart: how encoding/binary lays out a manifest, which is
// another way to its bytes than the program's.
type packedHead struct {
	Mark    [2]byte
	Version uint16
	Count   uint8
}

type packedPart struct {
	Off, Len, At uint16
	Digest       [8]byte
}

// modelPack: the bytes of what is a manifest.
func modelPack(t *testing.T, m api.Manifest) string {
	t.Helper()
	var out bytes.Buffer
	things := []any{packedHead{[2]byte{'K', 'S'}, uint16(m.Version), uint8(len(m.Parts))}}
	for _, p := range m.Parts {
		things = append(things, packedPart{uint16(p.Off), uint16(p.Len), uint16(p.At), [8]byte([]byte(p.Digest))})
	}
	for _, v := range things {
		if err := binary.Write(&out, binary.LittleEndian, v); err != nil {
			t.Fatal(err)
		}
	}
	return out.String()
}

// modelUnpack: the manifest with which s begins, if it does.
func modelUnpack(s string) (m api.Manifest, n int, ok bool) {
	in := strings.NewReader(s)
	var h packedHead
	if binary.Read(in, binary.LittleEndian, &h) != nil || h.Mark != [2]byte{'K', 'S'} || h.Count == 0 || h.Count > 8 {
		return api.Manifest{}, 0, false
	}
	m.Version = int(h.Version)
	for range h.Count {
		var p packedPart
		if binary.Read(in, binary.LittleEndian, &p) != nil || p.At >= p.Len {
			return api.Manifest{}, 0, false
		}
		m.Parts = append(m.Parts, api.Part{Off: int(p.Off), Len: int(p.Len), At: int(p.At), Digest: string(p.Digest[:])})
	}
	return m, len(s) - in.Len(), true
}

// wantPacked: m is a manifest: its bytes come out, and it of them.
func wantPacked(t *testing.T, m api.Manifest) {
	t.Helper()
	want := modelPack(t, m)
	if b, e := Pack(m); string(b) != want || e != api.OK {
		t.Errorf("P6: Pack(%#v) = %x, %d, want %x", m, b, e, want)
	}
	wantUnpacked(t, want, m)
}

// wantUnpacked: s begins with the bytes of m, and these only.
func wantUnpacked(t *testing.T, s string, m api.Manifest) {
	t.Helper()
	size := 5 + 14*len(m.Parts)
	if k, n, e := Unpack([]byte(s)); !reflect.DeepEqual(k, m) || n != size || e != api.OK {
		t.Errorf("P6: Unpack(%x) = %#v, %d, %d, want %#v, %d", s, k, n, e, m, size)
	}
}

// wantNotPacked: m is no manifest, and all else is empty (P1).
func wantNotPacked(t *testing.T, m api.Manifest) {
	t.Helper()
	if b, e := Pack(m); len(b) != 0 || e != api.ErrManifest {
		t.Errorf("P6: Pack(%#v) = %x, %d, want ErrManifest alone", m, b, e)
	}
}

// wantNotUnpacked: s does not begin with a manifest, and all else is empty (P1).
func wantNotUnpacked(t *testing.T, s string) {
	t.Helper()
	if m, n, e := Unpack([]byte(s)); m.Version != 0 || len(m.Parts) != 0 || n != 0 || e != api.ErrManifest {
		t.Errorf("P6: Unpack(%.60x) = %#v, %d, %d, want ErrManifest alone", s, m, n, e)
	}
}

// wantAsModel: Unpack answers as the model does, and Pack leads back.
func wantAsModel(t *testing.T, s string) {
	t.Helper()
	m, n, ok := modelUnpack(s)
	if !ok {
		wantNotUnpacked(t, s)
		return
	}
	wantUnpacked(t, s, m)
	if b, e := Pack(m); string(b) != s[:n] || e != api.OK {
		t.Errorf("P6: Pack(%#v) = %x, %d, want %x", m, b, e, s[:n])
	}
}

func TestP6TheDocumentsExample(t *testing.T) {
	b, e := Pack(example())
	if string(b) != examplePacked || len(b) != 19 || e != api.OK {
		t.Errorf("P6: Pack = %q, %d, want %q", b, e, examplePacked)
	}
	wantUnpacked(t, examplePacked, example())
}

func TestP6EveryCountOfParts(t *testing.T) {
	for n := range 300 {
		m := api.Manifest{Version: 513, Parts: manyParts(n)}
		if n >= 1 && n <= 8 {
			wantPacked(t, m)
		} else {
			for i := range m.Parts {
				m.Parts[i] = example().Parts[0]
			}
			wantNotPacked(t, m)
		}
	}
	wantNotPacked(t, api.Manifest{})
	wantNotPacked(t, api.Manifest{Version: 258, Parts: []api.Part{}})
}

func TestP6EveryCountByte(t *testing.T) {
	part := examplePacked[5:]
	for c := range 256 {
		for _, parts := range []int{0, 1, c - 1, c, c + 1, 300} {
			s := with(examplePacked, 4, byte(c))[:5] + strings.Repeat(part, max(parts, 0))
			if c < 1 || c > 8 || parts < c {
				wantNotUnpacked(t, s)
			} else {
				wantUnpacked(t, s, api.Manifest{Version: 258, Parts: slices.Repeat(example().Parts, c)})
			}
		}
	}
}

func TestP6EightPartsByHand(t *testing.T) {
	m := api.Manifest{Version: 1}
	want := "KS\x01\x00\x08"
	for i := range 8 {
		m.Parts = append(m.Parts, api.Part{Off: 256 * i, Len: 256 + i, At: 256, Digest: "digest_" + string(rune('0'+i))})
		want += string([]byte{0, byte(i), byte(i), 1, 0, 1}) + "digest_" + string(rune('0'+i))
	}
	m.Parts[0].At = 255
	want = want[:9] + "\xff\x00" + want[11:]
	if b, e := Pack(m); string(b) != want || len(b) != 117 || e != api.OK {
		t.Errorf("P6: Pack = %x, %d, want %x", b, e, want)
	}
	wantUnpacked(t, want, m)
}

func TestP6EveryWord(t *testing.T) {
	for n := range 65536 {
		low, high := byte(n%256), byte(n/256)
		m := oneOf(n, api.Part{Off: 65535 - n, Len: max(n, 1), At: max(n, 1) - 1, Digest: "abcdefgh"})
		b, e := Pack(m)
		if len(b) != 19 || b[2] != low || b[3] != high || b[5] != 255-low || b[6] != 255-high || e != api.OK {
			t.Fatalf("P6: Pack(%#v) = %x, %d", m, b, e)
		}
		if k, size, f := Unpack(b); !reflect.DeepEqual(k, m) || size != 19 || f != api.OK {
			t.Fatalf("P6: Unpack(%x) = %#v, %d, %d", b, k, size, f)
		}
	}
}

func TestP6NumbersThatAreNoWords(t *testing.T) {
	for _, n := range noWords {
		m := example()
		m.Version = n
		wantNotPacked(t, m)
		for place := range 8 {
			for _, p := range []api.Part{
				{Off: n, Len: 4, At: 1, Digest: "abcdefgh"},
				{Off: 300, Len: n, At: 0, Digest: "abcdefgh"},
				{Off: 300, Len: n, At: n - 1, Digest: "abcdefgh"},
				{Off: 300, Len: 65535, At: n, Digest: "abcdefgh"},
			} {
				m := oneOf(258, manyParts(8)...)
				m.Parts[place] = p
				wantNotPacked(t, m)
			}
		}
	}
}

func TestP6NumbersAtTheEdges(t *testing.T) {
	for _, n := range []int{0, 1, 255, 256, 65534, 65535} {
		wantPacked(t, oneOf(n, example().Parts...))
		wantPacked(t, oneOf(0, api.Part{Off: n, Len: 1, At: 0, Digest: "abcdefgh"}))
		if n > 0 {
			wantPacked(t, oneOf(0, api.Part{Off: 0, Len: n, At: 0, Digest: "abcdefgh"}))
			wantPacked(t, oneOf(0, api.Part{Off: 65535, Len: n, At: n - 1, Digest: "abcdefgh"}))
		}
	}
}

func TestP6AtIsBelowLen(t *testing.T) {
	for _, c := range [][2]int{{0, 0}, {0, 1}, {1, 1}, {1, 2}, {3, 4}, {4, 4}, {5, 4}, {255, 256}, {256, 256}, {256, 255}, {1, 256}, {511, 512}, {513, 512}, {65534, 65535}, {65535, 65535}, {65535, 0}} {
		for place := range 3 {
			m := oneOf(7, manyParts(3)...)
			m.Parts[place].At, m.Parts[place].Len = c[0], c[1]
			if c[0] < c[1] {
				wantPacked(t, m)
			} else {
				wantNotPacked(t, m)
				wantNotUnpacked(t, modelPack(t, m))
			}
		}
	}
}

func TestP6DigestHasEightBytes(t *testing.T) {
	for n := range 300 {
		for place := range 3 {
			m := oneOf(7, manyParts(3)...)
			m.Parts[place].Digest = strings.Repeat("\xfe", n)
			if n == 8 {
				wantPacked(t, m)
			} else {
				wantNotPacked(t, m)
			}
		}
	}
	// Eight letters, but more bytes; too little in one part, too much in the next.
	wantNotPacked(t, oneOf(7, api.Part{Len: 1, Digest: "éééééééé"}))
	wantPacked(t, oneOf(7, api.Part{Len: 1, Digest: "éééé"}))
	wantNotPacked(t, oneOf(7, api.Part{Len: 1, Digest: "1234567"}, api.Part{Len: 1, Digest: "123456789"}))
}

func TestP6WhatStandsBehindDoesNotMatter(t *testing.T) {
	for count := 1; count <= 8; count++ {
		m := oneOf(65535, manyParts(count)...)
		s := modelPack(t, m)
		for _, behind := range []string{"x", "\x00", "KS", s, strings.Repeat("\xff", 14), strings.Repeat("\x00", 70000)} {
			wantUnpacked(t, s+behind, m)
		}
	}
}

func TestP6BytesThatAreCut(t *testing.T) {
	for count := 1; count <= 8; count++ {
		s := modelPack(t, oneOf(0, manyParts(count)...))
		for n := range s {
			wantNotUnpacked(t, s[:n])
		}
		for n := 1; n < len(s); n++ {
			wantNotUnpacked(t, s[n:])
		}
	}
	wantNotUnpacked(t, "")
	if m, n, e := Unpack(nil); len(m.Parts) != 0 || n != 0 || e != api.ErrManifest {
		t.Errorf("P6: Unpack of nil = %#v, %d, %d", m, n, e)
	}
}

func TestP6AWrongMark(t *testing.T) {
	for i := range 2 {
		for c := range 256 {
			if s := with(examplePacked, i, byte(c)); s == examplePacked {
				wantUnpacked(t, s, example())
			} else {
				wantNotUnpacked(t, s)
			}
		}
	}
	for _, ahead := range []string{"SK", "ks", "K", "\x00"} {
		wantNotUnpacked(t, ahead+examplePacked[2:])
		wantNotUnpacked(t, ahead+examplePacked)
	}
}

func TestP6EveryTurnedByte(t *testing.T) {
	for _, m := range []api.Manifest{example(), oneOf(65535, manyParts(3)...)} {
		for _, behind := range []string{"", examplePacked} {
			s := modelPack(t, m) + behind
			for i := range s {
				for c := range 256 {
					wantAsModel(t, with(s, i, byte(c)))
				}
			}
		}
	}
}

func TestP6AnyBytes(t *testing.T) {
	r := rand.New(rand.NewSource(6))
	right := 0
	for range 20000 {
		b := make([]byte, r.Intn(140))
		for i := range b {
			b[i] = byte(r.Intn(256) >> (8 * r.Intn(2)))
		}
		copy(b, []byte{'K', 'S', byte(r.Intn(256)), byte(r.Intn(256)), byte(r.Intn(10))})
		wantAsModel(t, string(b))
		if _, _, ok := modelUnpack(string(b)); ok {
			right++
		}
	}
	if right < 1000 {
		t.Errorf("only %d of the tried bytes begin with a manifest", right)
	}
}

func TestP1PackAndUnpackDoNotPanicAtAnything(t *testing.T) {
	numbers := append([]int{0, 1, 65535}, noWords...)
	for _, n := range numbers {
		for _, k := range numbers {
			for _, s := range append([]string{"abcdefgh"}, seeds...) {
				for _, count := range []int{0, 1, 8, 9, 256} {
					parts := slices.Repeat([]api.Part{{Off: n, Len: k, At: n, Digest: s}}, count)
					Pack(api.Manifest{Version: k, Parts: parts})
				}
			}
		}
	}
	for _, s := range append(append([]string{}, seeds...), messages...) {
		for _, mark := range []string{"", "K", "KS", "KS\xff\xff\xff", "KS\x00\x00\x01", "KS\x00\x00\x08"} {
			Unpack([]byte(mark + s))
			Unpack([]byte(mark + s)[:len(mark)])
		}
	}
}

func TestP2PackWritesIntoNothingHandedIn(t *testing.T) {
	for _, m := range []api.Manifest{oneOf(258, manyParts(8)[2:5]...), oneOf(-1, manyParts(8)[2:5]...), oneOf(0, manyParts(12)[2:11]...), oneOf(0, manyParts(4)[1:1]...)} {
		whole := m.Parts[:cap(m.Parts)]
		was := slices.Clone(whole)
		Pack(m)
		if !slices.Equal(whole, was) {
			t.Errorf("P2: handed in %#v, behind Pack it is %#v", was, whole)
		}
	}
}

func TestP2UnpackWritesIntoNothingHandedIn(t *testing.T) {
	for _, s := range []string{examplePacked, examplePacked[:18], with(examplePacked, 0, 'k'), with(examplePacked, 9, 4), modelPack(t, oneOf(1, manyParts(8)...))} {
		whole := []byte("ahead|" + s + "|behind")
		was := bytes.Clone(whole)
		Unpack(whole[6 : 6+len(s)])
		if !bytes.Equal(whole, was) {
			t.Errorf("P2: handed in %q, behind Unpack it is %q", was, whole)
		}
	}
}

func TestP2PackAndUnpackKeepNothing(t *testing.T) {
	m := oneOf(258, manyParts(4)...)
	want := modelPack(t, m)
	packed, _ := Pack(m)
	clear(m.Parts)
	if string(packed) != want {
		t.Errorf("P2: the bytes change with the parts that were handed in")
	}
	in := []byte(want)
	k, _, _ := Unpack(in)
	clear(in)
	if !reflect.DeepEqual(k, oneOf(258, manyParts(4)...)) {
		t.Errorf("P2: the manifest changes with the bytes that were handed in: %#v", k)
	}
	wantNotPacked(t, m)
	wantNotUnpacked(t, string(in))
}

func TestP2WhatPackAnswersIsNewMemory(t *testing.T) {
	m := oneOf(258, manyParts(3)...)
	want := modelPack(t, m)
	first, _ := Pack(m)
	second, _ := Pack(m)
	first = first[:cap(first)]
	for i := range first {
		first[i] = 0xee
	}
	// Asked for ahead of the next call, which might write it anew.
	if string(second) != want {
		t.Errorf("P2: written into one answer of Pack, another is %x", second)
	}
	if third, _ := Pack(m); string(third) != want {
		t.Errorf("P2: written into one answer of Pack, a later one is %x", third)
	}
	if !reflect.DeepEqual(m, oneOf(258, manyParts(3)...)) {
		t.Errorf("P2: written into an answer of Pack, the manifest is %#v", m)
	}
}

func TestP2WhatUnpackAnswersIsNewMemory(t *testing.T) {
	want := oneOf(258, manyParts(3)...)
	in := []byte(modelPack(t, want))
	first, _, _ := Unpack(in)
	second, _, _ := Unpack(in)
	parts := first.Parts[:cap(first.Parts)]
	for i := range parts {
		parts[i] = api.Part{Off: -1, Digest: "written"}
	}
	// Asked for ahead of the next call, which might write it anew.
	if !reflect.DeepEqual(second, want) {
		t.Errorf("P2: written into one answer of Unpack, another is %#v", second)
	}
	if third, _, _ := Unpack(in); !reflect.DeepEqual(third, want) {
		t.Errorf("P2: written into one answer of Unpack, a later one is %#v", third)
	}
	if string(in) != modelPack(t, want) {
		t.Errorf("P2: written into an answer of Unpack, the bytes are %x", in)
	}
}

func TestP2PackAndUnpackSideBySide(t *testing.T) {
	var group sync.WaitGroup
	shared := oneOf(258, manyParts(8)...)
	in := []byte(modelPack(t, shared))
	for i := range 64 {
		group.Go(func() {
			own := oneOf(i, manyParts(1+i%8)...)
			wantPacked(t, own)
			wantPacked(t, shared)
			if m, n, e := Unpack(in); !reflect.DeepEqual(m, shared) || n != len(in) || e != api.OK {
				t.Errorf("P2: side by side: Unpack = %#v, %d, %d", m, n, e)
			}
			wantNotPacked(t, oneOf(i, manyParts(9+i%8)...))
		})
	}
	group.Wait()
}
