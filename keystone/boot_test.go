package keystone

import (
	"math"
	"math/rand"
	"reflect"
	"slices"
	"strings"
	"testing"

	"keystone/api"
)

const noughts = "\x00\x00\x00\x00\x00\x00\x00\x00"

// anyNumbers: fuses, faults and cuts that name nothing in flash, no version and no cut.
var anyNumbers = []int{-1, -2, math.MinInt32, math.MinInt, math.MinInt + 1, 1 << 17, math.MaxInt32, 1 << 32, math.MaxInt - 1, math.MaxInt}

// partOf: the part of an image that lies at off.
func partOf(off int, image string, at int) api.Part {
	return api.Part{Off: off, Len: len(image), At: at, Digest: modelDigest(image)}
}

// flashOf: flash of a size, with a manifest, its signature by the seed "seed",
// and images at the places that their parts say.
func flashOf(t *testing.T, size int, m api.Manifest, images ...string) string {
	t.Helper()
	packed := modelPack(t, m)
	out := make([]byte, size)
	for i, image := range images {
		copy(out[m.Parts[i].Off:], image)
	}
	copy(out, packed+mustSign(t, "seed", 6, packed))
	return string(out)
}

// exampleFlash: the document's example: a manifest in 19 bytes, a signature to
// 187, four bytes of an image at 300 to 303.
func exampleFlash(t *testing.T) string {
	t.Helper()
	return flashOf(t, 304, oneOf(258, partOf(300, "boot", 1)), "boot")
}

// eight: of eight cores, the manifest and the images, which lie at 300, 310 ..
// 370; the first is the longest, and so may be the last to be measured.
func eight() (api.Manifest, []string) {
	images := []string{"zeroth....", "one", "two", "three", "four", "five", "six", "seven"}
	m := api.Manifest{Version: 7}
	for i, image := range images {
		m.Parts = append(m.Parts, partOf(300+10*i, image, i%3))
	}
	return m, images
}

func eightFlash(t *testing.T) string {
	t.Helper()
	m, images := eight()
	return flashOf(t, 380, m, images...)
}

// bootOf: with the key of the seed "seed".
func bootOf(flash string, fuse int, faults []int, cut int) api.Report {
	return Boot([]byte(flash), Key("seed"), fuse, faults, cut)
}

// stopped: what the first core's look answers with an error.
func stopped(e api.Errno, fuse int) api.Report {
	return api.Report{Err: e, Register: noughts, Fuse: fuse}
}

// registerOf: of a log.
func registerOf(log []api.Entry) string {
	r := noughts
	for _, e := range log {
		r = model(5, e.Core, r, e.Digest)
	}
	return r
}

// started: all is right with these parts and images.
func started(fuse int, parts []api.Part, images []string) api.Report {
	r := api.Report{Codes: make([]api.Errno, len(parts)), Fuse: fuse}
	for i, p := range parts {
		r.Log = append(r.Log, api.Entry{Core: i, Digest: modelDigest(images[i])})
		r.Starts = append(r.Starts, api.Start{Core: i, At: p.At, Image: images[i]})
	}
	r.Register = registerOf(r.Log)
	return r
}

// exampleStarted: the document's example, when all is right.
func exampleStarted(fuse int) api.Report {
	return started(fuse, []api.Part{partOf(300, "boot", 1)}, []string{"boot"})
}

func eightStarted(fuse int) api.Report {
	m, images := eight()
	return started(fuse, m.Parts, images)
}

// unread: one core, whose image can't be read.
func unread(fuse int) api.Report {
	return api.Report{Err: api.ErrRead, Codes: []api.Errno{api.ErrRead}, Register: noughts, Fuse: fuse}
}

// another: one core, whose image is another one.
func another(fuse int, image string) api.Report {
	log := []api.Entry{{Core: 0, Digest: modelDigest(image)}}
	return api.Report{Err: api.ErrDigest, Codes: []api.Errno{api.ErrDigest}, Log: log, Register: registerOf(log), Fuse: fuse}
}

// withCut: a report of a boot that the power was cut in.
func withCut(r api.Report, fuse int) api.Report {
	r.Err, r.Fuse, r.Starts = api.ErrCut, fuse, nil
	return r
}

// same: a list that is empty and one that is nil are the same.
func same(a, b api.Report) bool {
	return a.Err == b.Err && a.Register == b.Register && a.Fuse == b.Fuse &&
		slices.Equal(a.Codes, b.Codes) && slices.Equal(a.Log, b.Log) && slices.Equal(a.Starts, b.Starts)
}

func wantReport(t *testing.T, what string, got, want api.Report) {
	t.Helper()
	if !same(got, want) {
		t.Errorf("%s:\n%#v, want\n%#v", what, got, want)
	}
}

func TestP7TheDocumentsExample(t *testing.T) {
	flash := exampleFlash(t)
	for _, fuse := range []int{258, 0} {
		wantReport(t, "P9: all is right", bootOf(flash, fuse, nil, 0), exampleStarted(258))
	}
	wantReport(t, "P7: the fuse is above", bootOf(flash, 259, nil, 0), stopped(api.ErrOld, 259))
	wantReport(t, "P8: a fault at 303", bootOf(flash, 5, []int{303}, 0), unread(5))
	wantReport(t, "P7: a fault at 187", bootOf(flash, 5, []int{187}, 0), stopped(api.ErrRead, 5))
	for _, at := range []int{188, 304} {
		wantReport(t, "P7, P8: a fault that does not matter", bootOf(flash, 5, []int{at}, 0), exampleStarted(258))
	}
	for at := 300; at < 304; at++ {
		turned := with(flash, at, flash[at]^0x20)
		wantReport(t, "P8: a turned byte", bootOf(turned, 5, nil, 0), another(5, turned[300:]))
	}
}

// Written by hand, by no reckoning of the project's.
func TestP8AndP9BytesByHand(t *testing.T) {
	flash := fromHex(t, "4b530201012c01040001005cdd1ae8b619c6d6"+
		"067fbef96147c98befc1aca0770d9f0604a912412235a72270e152fa1b6c5b293a93b009d8305c7f616049020455d9a2a96aa2ac05dfcf802c160fbaf0bdc8abc7adcbe014197ad45d48a1f2e8d616504bdb9619879e80b91f99552541fde8478607032733ffcbd9f0722f2ff17933f019a9e3e239d8871fe9e8c4ae942aafa9fc5b38c7d6ef0767ea66bbea60634f70e1dbda2b706e8833056f072029ea15bd1e99d074496f7aaa92"+
		strings.Repeat("00", 112)+"626f6f74")
	key := fromHex(t, "d35d0b692b642eda")
	want := api.Report{
		Codes:    []api.Errno{api.OK},
		Log:      []api.Entry{{Core: 0, Digest: fromHex(t, "5cdd1ae8b619c6d6")}},
		Register: fromHex(t, "f34466ed048530f9"),
		Fuse:     258,
		Starts:   []api.Start{{Core: 0, At: 1, Image: "boot"}},
	}
	wantReport(t, "P9: all is right", Boot([]byte(flash), key, 3, nil, 0), want)
	want = api.Report{
		Err:      api.ErrDigest,
		Codes:    []api.Errno{api.ErrDigest},
		Log:      []api.Entry{{Core: 0, Digest: fromHex(t, "7805c8aec1ba550d")}},
		Register: fromHex(t, "8576e2c718e09058"),
		Fuse:     3,
	}
	wantReport(t, "P8: another image", Boot([]byte(with(flash, 301, 'O')), key, 3, nil, 0), want)
}

func TestP8RegisterByHand(t *testing.T) {
	images := []string{"one", "two", "three"}
	m := oneOf(1, partOf(300, "one", 0), partOf(310, "two", 0), partOf(320, "three", 0))
	flash := flashOf(t, 330, m, images...)
	for _, c := range []struct {
		faults []int
		want   string
	}{
		{nil, "32a43493cb0f69e5"},
		{[]int{320}, "de7812bb2b56c9b0"},
		{[]int{310}, "4fe2dffa7cdb8a90"},
		{[]int{310, 320}, "b4e581204863ef88"},
		{[]int{300, 310, 320}, "0000000000000000"},
	} {
		if r := bootOf(flash, 0, c.faults, 0); r.Register != fromHex(t, c.want) {
			t.Errorf("P8: faults %d: Register %x, want %s", c.faults, r.Register, c.want)
		}
	}
}

func TestP7SizeOfFlash(t *testing.T) {
	flash := exampleFlash(t)
	for _, size := range []int{305, 65535, 65536} {
		wantReport(t, "P7: a size that may be", bootOf(flash+strings.Repeat("x", size-304), 5, nil, 0), exampleStarted(258))
	}
	for _, size := range []int{65537, 65538, 65536 + 304, 1 << 17} {
		great := flash + strings.Repeat("x", size-304)
		for _, faults := range [][]int{nil, {0}, {187}, {300}, {65536}} {
			wantReport(t, "P7: too much flash", bootOf(great, 5, faults, 0), stopped(api.ErrManifest, 5))
		}
		wantReport(t, "P7: too much flash, and the fuse is above", bootOf(great, 300, nil, 1), stopped(api.ErrManifest, 300))
	}
}

func TestP7NoManifest(t *testing.T) {
	flash := exampleFlash(t)
	for what, s := range map[string]string{
		"no flash":            "",
		"a wrong mark":        with(flash, 0, 'k'),
		"the mark turned":     "SK" + flash[2:],
		"no parts":            with(flash, 4, 0),
		"nine parts":          with(flash, 4, 9),
		"255 parts":           with(flash, 4, 255),
		"At is Len":           with(flash, 9, 4),
		"At is above Len":     with(flash, 10, 1),
		"Len is 0":            with(with(flash, 7, 0), 9, 0),
		"noughts":             strings.Repeat("\x00", 304),
		"a manifest further":  "\x00" + flash,
		"a signature alone":   flash[19:],
		"more parts than fit": with(flash[:188+13], 4, 2),
	} {
		for _, fuse := range append([]int{0, 258, 259}, anyNumbers...) {
			for _, faults := range [][]int{nil, {0}, {187}, {300}} {
				wantReport(t, "P7: "+what, bootOf(s, fuse, faults, 0), stopped(api.ErrManifest, fuse))
			}
		}
	}
	if r := Boot(nil, Key("seed"), 5, nil, 0); !same(r, stopped(api.ErrManifest, 5)) {
		t.Errorf("P7: no flash at all: %#v", r)
	}
}

func TestP7TooFewBytesBehindTheManifest(t *testing.T) {
	flash := exampleFlash(t)
	for size := range 188 {
		for _, faults := range [][]int{nil, {0}, {size}} {
			wantReport(t, "P7: too little flash", bootOf(flash[:size], 5, faults, 0), stopped(api.ErrManifest, 5))
		}
	}
	for size := 188; size < 304; size++ {
		wantReport(t, "P8: an image that isn't all there", bootOf(flash[:size], 5, nil, 0), unread(5))
	}
	eight := eightFlash(t)
	wantReport(t, "P7: eight parts, a byte too few", bootOf(eight[:285], 5, nil, 0), stopped(api.ErrManifest, 5))
	if r := bootOf(eight[:286], 5, nil, 0); len(r.Codes) != 8 || r.Err != api.ErrRead {
		t.Errorf("P7: eight parts and a signature: %#v", r)
	}
}

// Flash that ends with the signature: the image is some of the manifest.
func TestP7JustEnoughFlash(t *testing.T) {
	m := oneOf(1, partOf(0, "KS\x01\x00\x01", 4))
	flash := flashOf(t, 188, m)
	wantReport(t, "P7: just enough flash", bootOf(flash, 1, nil, 0), started(1, m.Parts, []string{"KS\x01\x00\x01"}))
	wantReport(t, "P7: a byte too few", bootOf(flash[:187], 1, nil, 0), stopped(api.ErrManifest, 1))
}

func TestP7EveryFaultInManifestAndSignature(t *testing.T) {
	flash := exampleFlash(t)
	for at := range 188 {
		wantReport(t, "P7: a fault in front", bootOf(flash, 5, []int{at}, 0), stopped(api.ErrRead, 5))
		wantReport(t, "P7: and others that do not matter", bootOf(flash, 5, []int{188, -1, at, 304}, 0), stopped(api.ErrRead, 5))
	}
	for at := 188; at < 300; at++ {
		wantReport(t, "P7: a fault behind the signature", bootOf(flash, 5, []int{at}, 0), exampleStarted(258))
	}
	eight := eightFlash(t)
	for _, at := range []int{0, 4, 5, 116, 117, 284, 285} {
		wantReport(t, "P7: a fault in front of eight", bootOf(eight, 5, []int{at}, 0), stopped(api.ErrRead, 5))
	}
	for _, at := range []int{286, 299} {
		wantReport(t, "P7: a fault behind the signature of eight", bootOf(eight, 5, []int{at}, 0), eightStarted(7))
	}
}

func TestP7FaultsOutsideFlash(t *testing.T) {
	flash := exampleFlash(t)
	for _, at := range append([]int{304, 305, 65535, 65536}, anyNumbers...) {
		wantReport(t, "P7, P8: a fault outside flash", bootOf(flash, 5, []int{at, at}, 0), exampleStarted(258))
	}
	wantReport(t, "P7, P8: many faults outside flash", bootOf(flash, 5, anyNumbers, 0), exampleStarted(258))
	wantReport(t, "P8: and one in the image", bootOf(flash, 5, append([]int{300}, anyNumbers...), 0), unread(5))
	wantReport(t, "P7: and one in the signature", bootOf(flash, 5, append(slices.Clone(anyNumbers), 19), 0), stopped(api.ErrRead, 5))
}

func TestP7EveryTurnedByteInManifestAndSignature(t *testing.T) {
	flash := exampleFlash(t)
	for at := range 188 {
		for _, bit := range []byte{1, 0x80} {
			turned := with(flash, at, flash[at]^bit)
			want := api.ErrSign
			if _, _, ok := modelUnpack(turned); !ok {
				want = api.ErrManifest
			}
			wantReport(t, "P7: a turned byte", bootOf(turned, 5, nil, 0), stopped(want, 5))
		}
	}
}

func TestP7OtherKeys(t *testing.T) {
	flash := exampleFlash(t)
	key := Key("seed")
	for _, other := range []string{"", "seed", Key(""), Key("seeD"), key[:7], key + "\x00", "\x00" + key, with(key, 7, key[7]^1), key + key} {
		wantReport(t, "P7: another key", Boot([]byte(flash), other, 5, nil, 0), stopped(api.ErrSign, 5))
	}
}

func TestP7TheSignatureOfEveryLeaf(t *testing.T) {
	flash := exampleFlash(t)
	for leaf := range 8 {
		signed := flash[:19] + mustSign(t, "seed", leaf, flash[:19]) + flash[188:]
		wantReport(t, "P7: a leaf", bootOf(signed, 5, nil, 0), exampleStarted(258))
	}
	none := with(flash, 19, 8)
	key := modelOutcome(none[:19], none[19:188])
	wantReport(t, "P7: no leaf, though the key comes out", Boot([]byte(none), key, 5, nil, 0), stopped(api.ErrSign, 5))
}

// A signature is of the manifest's bytes: neither of more nor of fewer.
func TestP7TheSignatureOfOtherBytes(t *testing.T) {
	flash := exampleFlash(t)
	for _, b := range []string{"", flash[:18], flash[:19] + "\x00", flash[:5], flash, flash[300:], with(flash[:19], 2, 3)} {
		signed := flash[:19] + mustSign(t, "seed", 6, b) + flash[188:]
		wantReport(t, "P7: signed was something else", bootOf(signed, 5, nil, 0), stopped(api.ErrSign, 5))
	}
}

func TestP7VersionAndFuse(t *testing.T) {
	for _, version := range []int{0, 1, 255, 256, 258, 65534, 65535} {
		m := oneOf(version, partOf(300, "boot", 1))
		flash := flashOf(t, 304, m, "boot")
		for _, fuse := range append([]int{version - 1, version, version + 1, version + 256, 0, 65535, 65536}, anyNumbers...) {
			want := exampleStarted(version)
			if version < fuse {
				want = stopped(api.ErrOld, fuse)
			}
			wantReport(t, "P7: a version and a fuse", bootOf(flash, fuse, nil, 0), want)
		}
	}
}

// Each set of the things that can be wrong, at one time: the first counts.
func TestP7WhichErrorComesFirst(t *testing.T) {
	for set := range 64 {
		flash, key, fuse, cut := exampleFlash(t), Key("seed"), 258, 0
		var faults []int
		want := exampleStarted(258)
		is := func(i int) bool { return set>>i&1 == 1 }
		if is(5) {
			cut = 1
			want = withCut(want, 258)
		}
		if is(4) {
			faults = append(faults, 303)
			want = unread(258)
		}
		if is(3) {
			fuse = 259
			want = stopped(api.ErrOld, fuse)
		}
		if is(2) {
			key = Key("seeD")
			want = stopped(api.ErrSign, fuse)
		}
		if is(1) {
			faults = append(faults, 187)
			want = stopped(api.ErrRead, fuse)
		}
		if is(0) {
			flash = with(flash, 4, 0)
			want = stopped(api.ErrManifest, fuse)
		}
		wantReport(t, "P7: several errors", Boot([]byte(flash), key, fuse, faults, cut), want)
	}
}

func TestP8FaultsAtAnImage(t *testing.T) {
	flash := flashOf(t, 310, oneOf(258, partOf(300, "boot", 1)), "boot")
	for at := 296; at < 310; at++ {
		want := exampleStarted(258)
		if at >= 300 && at <= 303 {
			want = unread(5)
		}
		wantReport(t, "P8: a fault at the image", bootOf(flash, 5, []int{at}, 0), want)
		wantReport(t, "P8: a fault told twice", bootOf(flash, 5, []int{299, at, 304, at}, 0), want)
	}
}

// A core whose image has a fault measures nothing, be it another image too.
func TestP8AFaultInAnotherImage(t *testing.T) {
	flash := with(exampleFlash(t), 302, 'x')
	wantReport(t, "P8: a fault in another image", bootOf(flash, 5, []int{300}, 0), unread(5))
	wantReport(t, "P8: a fault at the byte itself", bootOf(flash, 5, []int{302}, 0), unread(5))
	wantReport(t, "P8: another image", bootOf(flash, 5, nil, 0), another(5, "boxt"))
}

func TestP8WhereAnImageEnds(t *testing.T) {
	whole := strings.Repeat("\x00", 65536)
	for _, c := range []struct {
		size, off, length int
		right             bool
	}{
		{304, 300, 4, true},
		{304, 300, 5, false},
		{304, 301, 4, false},
		{304, 303, 1, true},
		{304, 304, 1, false},
		{304, 305, 1, false},
		{304, 0, 304, true},
		{304, 0, 305, false},
		{304, 65535, 1, false},
		{304, 65535, 65535, false},
		{304, 65232, 304, false},
		{304, 1, 65535, false},
		{65536, 65535, 1, true},
		{65536, 65535, 2, false},
		{65536, 1, 65535, true},
		{65536, 2, 65535, false},
		{65536, 0, 65535, true},
		{65535, 0, 65535, true},
		{65535, 1, 65535, false},
		{65536, 65535, 65535, false},
	} {
		p := api.Part{Off: c.off, Len: c.length, At: c.length - 1, Digest: Digest([]byte(whole[:c.length]))}
		flash := flashOf(t, c.size, oneOf(258, p))
		want := unread(5)
		if c.right {
			image := flash[c.off : c.off+c.length]
			want = another(5, image)
			if c.off >= 188 {
				want = started(258, []api.Part{p}, []string{image})
			}
		}
		wantReport(t, "P8: where an image ends", bootOf(flash, 5, nil, 0), want)
	}
}

func TestP8AFaultAtTheEndsOfAGreatImage(t *testing.T) {
	image := strings.Repeat("keystone", 8000)
	m := oneOf(9, partOf(1000, image, 63999))
	flash := flashOf(t, 65536, m, image)
	right := started(9, m.Parts, []string{image})
	for at, want := range map[int]api.Report{999: right, 1000: unread(5), 33000: unread(5), 64999: unread(5), 65000: right} {
		wantReport(t, "P8: a fault at a great image", bootOf(flash, 5, []int{at}, 0), want)
	}
}

// The digest of the part is held against the image in every byte.
func TestP8EveryTurnedByteOfAPartsDigest(t *testing.T) {
	for at := range 8 {
		p := partOf(300, "boot", 1)
		p.Digest = with(p.Digest, at, p.Digest[at]^1)
		flash := flashOf(t, 304, oneOf(258, p), "boot")
		wantReport(t, "P8: another digest", bootOf(flash, 5, nil, 0), another(5, "boot"))
	}
}

func TestP8EveryCountOfCores(t *testing.T) {
	m, images := eight()
	for n := 1; n <= 8; n++ {
		flash := flashOf(t, 380, oneOf(7, m.Parts[:n]...), images[:n]...)
		wantReport(t, "P8: a core for each part", bootOf(flash, 5, nil, 0), started(7, m.Parts[:n], images))
	}
}

// What becomes of each core is one of three; all that they can be, for four
// cores of eight.
func TestP8EveryCoreHasACodeOfItsOwn(t *testing.T) {
	right := eightFlash(t)
	m, _ := eight()
	for set := range 81 {
		flash, faults := right, []int(nil)
		var want api.Report
		want.Codes = make([]api.Errno, 8)
		rest := set
		for _, core := range []int{0, 3, 4, 7} {
			off := m.Parts[core].Off
			switch rest % 3 {
			case 1:
				faults = append(faults, off+2)
				want.Codes[core] = api.ErrRead
			case 2:
				flash = with(flash, off, '!')
				want.Codes[core] = api.ErrDigest
			}
			rest /= 3
		}
		for core, p := range m.Parts {
			if want.Codes[core] != api.ErrRead {
				want.Log = append(want.Log, api.Entry{Core: core, Digest: modelDigest(flash[p.Off : p.Off+p.Len])})
			}
			if want.Err == api.OK {
				want.Err = want.Codes[core]
			}
		}
		want.Register, want.Fuse = registerOf(want.Log), 5
		if set == 0 {
			want = eightStarted(7)
		}
		wantReport(t, "P8: a code for each core", bootOf(flash, 5, faults, 0), want)
	}
}

func TestP8ImagesThatLieOverEachOther(t *testing.T) {
	images := []string{"abcdef", "cd", "KS", "abcdef", "f", "bcde", "a", "abcdefgh"}
	offs := []int{300, 302, 0, 300, 305, 301, 300, 300}
	m := api.Manifest{Version: 1}
	for i, image := range images {
		m.Parts = append(m.Parts, partOf(offs[i], image, len(image)-1))
	}
	flash := flashOf(t, 308, m, images[:2]...)
	flash = flash[:300] + "abcdefgh"
	wantReport(t, "P8: images over each other", bootOf(flash, 1, nil, 0), started(1, m.Parts, images))
	r := bootOf(flash, 1, []int{302}, 0)
	if want := []api.Errno{2, 2, 0, 2, 0, 2, 0, 2}; r.Err != api.ErrRead || !slices.Equal(r.Codes, want) {
		t.Errorf("P8: a fault in several images: %#v, want Codes %d", r, want)
	}
}

// An image may be the signature itself, whose digest no manifest can foresee.
func TestP8AnImageOfTheSignature(t *testing.T) {
	m := oneOf(258, api.Part{Off: 19, Len: 169, At: 0, Digest: "abcdefgh"})
	flash := flashOf(t, 188, m)
	wantReport(t, "P8: the signature as an image", bootOf(flash, 5, nil, 0), another(5, flash[19:]))
}

func TestP9TheFirstCoresErrorCounts(t *testing.T) {
	right := eightFlash(t)
	for faulty := range 8 {
		for turned := range 8 {
			if faulty == turned {
				continue
			}
			want := api.ErrRead
			if turned < faulty {
				want = api.ErrDigest
			}
			for _, cut := range []int{0, 1, 2} {
				r := bootOf(with(right, 300+10*turned, '!'), 5, []int{300 + 10*faulty}, cut)
				if r.Err != want || len(r.Starts) != 0 || r.Fuse != 5 {
					t.Errorf("P9: core %d can't be read, core %d is another one: %#v, want Err %d", faulty, turned, r, want)
				}
			}
		}
	}
}

func TestP9Cuts(t *testing.T) {
	one, eight := exampleFlash(t), eightFlash(t)
	for _, fuse := range []int{5, 7, 0, -1, math.MinInt} {
		wantReport(t, "P9: cut ahead of the fuse", bootOf(one, fuse, nil, 1), withCut(exampleStarted(258), fuse))
		wantReport(t, "P9: cut behind the fuse", bootOf(one, fuse, nil, 2), withCut(exampleStarted(258), 258))
		wantReport(t, "P9: eight, cut ahead of the fuse", bootOf(eight, fuse, nil, 1), withCut(eightStarted(7), fuse))
		wantReport(t, "P9: eight, cut behind the fuse", bootOf(eight, fuse, nil, 2), withCut(eightStarted(7), 7))
		for _, cut := range append([]int{0, 3, 4, 257, 258, 65537, 1<<32 + 1, 1<<32 + 2}, anyNumbers...) {
			wantReport(t, "P9: no cut", bootOf(one, fuse, nil, cut), exampleStarted(258))
			wantReport(t, "P9: eight, no cut", bootOf(eight, fuse, nil, cut), eightStarted(7))
		}
	}
}

func TestP9AnErrorAndACut(t *testing.T) {
	flash := exampleFlash(t)
	for _, cut := range []int{0, 1, 2, 3} {
		wantReport(t, "P9: a cut, and a fault", bootOf(flash, 5, []int{301}, cut), unread(5))
		wantReport(t, "P9: a cut, and another image", bootOf(with(flash, 300, 'B'), 5, nil, cut), another(5, "Boot"))
		wantReport(t, "P9: a cut, and no manifest", bootOf("", 5, nil, cut), stopped(api.ErrManifest, 5))
		wantReport(t, "P9: a cut, and a fault in front", bootOf(flash, 5, []int{0}, cut), stopped(api.ErrRead, 5))
		wantReport(t, "P9: a cut, and another key", Boot([]byte(flash), "", 5, nil, cut), stopped(api.ErrSign, 5))
		wantReport(t, "P9: a cut, and the fuse above", bootOf(flash, 300, nil, cut), stopped(api.ErrOld, 300))
	}
}

// One boot behind another, each with the fuse that the last one left.
func TestP9TheFuseOnlyRises(t *testing.T) {
	of := func(version int) string {
		return flashOf(t, 304, oneOf(version, partOf(300, "boot", 1)), "boot")
	}
	fuse := -5
	for _, c := range []struct {
		version, cut, fuse int
		err                api.Errno
	}{
		{3, 1, -5, api.ErrCut},
		{3, 2, 3, api.ErrCut},
		{2, 0, 3, api.ErrOld},
		{3, 0, 3, api.OK},
		{9, 1, 3, api.ErrCut},
		{3, 0, 3, api.OK},
		{9, 0, 9, api.OK},
		{8, 2, 9, api.ErrOld},
		{65535, 2, 65535, api.ErrCut},
		{65534, 0, 65535, api.ErrOld},
		{65535, 0, 65535, api.OK},
	} {
		r := bootOf(of(c.version), fuse, nil, c.cut)
		if r.Err != c.err || r.Fuse != c.fuse || len(r.Starts) == 1 != (c.err == api.OK) {
			t.Errorf("P9: version %d, fuse %d, cut %d: %#v, want Err %d, Fuse %d", c.version, fuse, c.cut, r, c.err, c.fuse)
		}
		fuse = r.Fuse
	}
}

// wantP10: what is promised of every boot, whatever was handed in.
func wantP10(t *testing.T, flash, key string, fuse int, r api.Report) {
	t.Helper()
	if r.Fuse < fuse {
		t.Errorf("P10: fuse %d, Fuse %d", fuse, r.Fuse)
	}
	if (len(r.Starts) > 0) != (r.Err == api.OK) {
		t.Errorf("P10: Err %d with %d starts", r.Err, len(r.Starts))
	}
	if len(r.Starts) == 0 {
		return
	}
	m, n, ok := modelUnpack(flash)
	if !ok || !Verify(key, []byte(flash[:n]), flash[n:n+169]) || m.Version < fuse || r.Fuse != m.Version {
		t.Errorf("P10: a start on what was not signed, or is old: %#v", r)
	}
	if len(r.Starts) != len(m.Parts) {
		t.Errorf("P10: %d cores of %d start", len(r.Starts), len(m.Parts))
	}
	for i, s := range r.Starts {
		p := m.Parts[i]
		if s.Core != i || s.At != p.At || len(s.Image) != p.Len || modelDigest(s.Image) != p.Digest {
			t.Errorf("P10: core %d starts as %#v, of %#v", i, s, p)
		}
		if !slices.Contains(r.Log, api.Entry{Core: i, Digest: p.Digest}) {
			t.Errorf("P10: core %d starts and isn't in the log %#v", i, r.Log)
		}
	}
}

// anyBoot: a boot in which this or that is wrong, or nothing is.
func anyBoot(t *testing.T, r *rand.Rand) (flash, key string, fuse int, faults []int, cut int) {
	m := api.Manifest{Version: r.Intn(4)}
	var images []string
	for range 1 + r.Intn(8) {
		image := make([]byte, 1+r.Intn(12))
		r.Read(image)
		off := 286 + 12*len(images)
		m.Parts = append(m.Parts, partOf(off, string(image), r.Intn(len(image))))
		images = append(images, string(image))
	}
	flash = flashOf(t, 400, m, images...)
	key, fuse, cut = Key("seed"), r.Intn(5)-1, r.Intn(5)-1
	switch r.Intn(8) {
	case 0:
		at := r.Intn(300)
		flash = with(flash, at, flash[at]^1<<r.Intn(8))
	case 1:
		at := 286 + r.Intn(100)
		flash = with(flash, at, byte(r.Intn(256)))
	case 2:
		flash = flash[:r.Intn(400)]
	case 3:
		key = Key("seeD")
	}
	for range r.Intn(3) {
		faults = append(faults, r.Intn(500)-20)
	}
	return flash, key, fuse, faults, cut
}

func TestP10AnyBoot(t *testing.T) {
	r := rand.New(rand.NewSource(1))
	seen := make([]int, 7)
	for range 3000 {
		flash, key, fuse, faults, cut := anyBoot(t, r)
		got := Boot([]byte(flash), key, fuse, faults, cut)
		want := modelBoot(flash, key, fuse, faults, cut)
		if !same(got, want) {
			t.Fatalf("P7 to P9: Boot(%x, %x, %d, %d, %d):\n%#v, want\n%#v", flash, key, fuse, faults, cut, got, want)
		}
		wantP10(t, flash, key, fuse, got)
		seen[got.Err]++
	}
	for e, n := range seen {
		if n < 50 {
			t.Errorf("only %d of the tried boots answer %d", n, e)
		}
	}
}

func TestP10EveryTurnedByteStartsNothing(t *testing.T) {
	flash := eightFlash(t)
	m, _ := eight()
	inImage := func(at int) bool {
		return slices.ContainsFunc(m.Parts, func(p api.Part) bool { return at >= p.Off && at < p.Off+p.Len })
	}
	for at := range flash {
		turned := with(flash, at, flash[at]^4)
		r := bootOf(turned, 5, nil, 0)
		wantP10(t, turned, Key("seed"), 5, r)
		if starts := len(r.Starts) > 0; starts != (at >= 286 && !inImage(at)) {
			t.Errorf("P10: byte %d turned: %#v", at, r)
		}
		if len(r.Starts) > 0 && !reflect.DeepEqual(r, eightStarted(7)) {
			t.Errorf("P10: byte %d, which is none of an image, turned: %#v", at, r)
		}
	}
}
