package keystone

import (
	"bytes"
	"runtime"
	"slices"
	"strings"
	"sync"
	"testing"
	"time"

	"keystone/api"
)

// wantNoMoreGoroutines: a goroutine that is just ending may still be counted,
// so they are counted again for a while.
func wantNoMoreGoroutines(t *testing.T, before int) {
	t.Helper()
	for i := 0; runtime.NumGoroutine() > before; i++ {
		if i == 1000 {
			t.Fatalf("P1: %d goroutines, %d before", runtime.NumGoroutine(), before)
		}
		time.Sleep(time.Millisecond)
	}
}

func TestP1BootDoesNotPanicAtAnything(t *testing.T) {
	before := runtime.NumGoroutine()
	flash := exampleFlash(t)
	flashes := []string{"", "K", "KS", "KS\x00\x00\x01", "KS\xff\xff\xff", flash[:19], flash[:187], flash[:188], flash[:303], flash,
		flash + flash, eightFlash(t), strings.Repeat("KS\x01\x00\x01", 40), strings.Repeat("\x00", 65537), strings.Repeat("\xff", 400)}
	numbers := append([]int{0, 1, 2, 3, 187, 188, 258, 300, 304, 65535, 65536}, anyNumbers...)
	for _, s := range flashes {
		for _, key := range []string{"", "\x00", Key("seed"), strings.Repeat("k", 300)} {
			for i, n := range numbers {
				other := numbers[len(numbers)-1-i]
				for _, faults := range [][]int{nil, {}, {n}, {other, n, other}, numbers} {
					r := Boot([]byte(s), key, n, faults, other)
					wantP10(t, s, key, n, r)
				}
			}
		}
	}
	Boot(nil, "", 0, nil, 0)
	wantNoMoreGoroutines(t, before)
}

// Whether the cores are right, wrong or can't be read: none stays behind.
func TestP1NoCoreStaysBehind(t *testing.T) {
	before := runtime.NumGoroutine()
	flash := eightFlash(t)
	for range 200 {
		bootOf(flash, 5, nil, 0)
		bootOf(flash, 5, nil, 1)
		bootOf(with(flash, 300, '!'), 5, []int{310, 340}, 0)
		bootOf(flash[:286], 5, nil, 0)
		bootOf(flash, 5, []int{0}, 0)
	}
	wantNoMoreGoroutines(t, before)
}

func TestP1ManyFaults(t *testing.T) {
	var faults []int
	for at := range 65536 {
		if at >= 304 {
			faults = append(faults, at)
		}
	}
	wantReport(t, "P8: faults all behind", bootOf(exampleFlash(t), 5, faults, 0), exampleStarted(258))
	wantReport(t, "P8: and one in the image", bootOf(exampleFlash(t), 5, append(faults, 303), 0), unread(5))
}

// shortBoots: boots that end in each way that there is.
func shortBoots() map[string]func(flash []byte, faults []int) api.Report {
	return map[string]func(flash []byte, faults []int) api.Report{
		"started":      func(b []byte, f []int) api.Report { return Boot(b, Key("seed"), 5, f[:0], 0) },
		"a fault":      func(b []byte, f []int) api.Report { return Boot(b, Key("seed"), 5, f, 0) },
		"cut 1":        func(b []byte, f []int) api.Report { return Boot(b, Key("seed"), 5, f[:1], 1) },
		"cut 2":        func(b []byte, f []int) api.Report { return Boot(b, Key("seed"), 5, f[:1], 2) },
		"another key":  func(b []byte, f []int) api.Report { return Boot(b, "", 5, f[:1], 0) },
		"old":          func(b []byte, f []int) api.Report { return Boot(b, Key("seed"), 500, f[:1], 0) },
		"ends early":   func(b []byte, f []int) api.Report { return Boot(b[:300], Key("seed"), 5, f[:1], 0) },
		"no signature": func(b []byte, f []int) api.Report { return Boot(b[:100], Key("seed"), 5, f[:1], 0) },
	}
}

func TestP2BootWritesIntoNothingHandedIn(t *testing.T) {
	for what, run := range shortBoots() {
		for _, flash := range []string{exampleFlash(t), eightFlash(t)} {
			whole := []byte("ahead|" + flash + "|behind, and some room")
			faults := []int{77, 304, -3, 302, 1, 99, 88}
			was, wasFaults := bytes.Clone(whole), slices.Clone(faults)
			run(whole[6:6+len(flash)], faults[1:4])
			if !bytes.Equal(whole, was) {
				t.Errorf("P2: %s: flash is written into", what)
			}
			if !slices.Equal(faults, wasFaults) {
				t.Errorf("P2: %s: faults were %d, are %d", what, wasFaults, faults)
			}
		}
	}
}

func TestP2BootKeepsNothing(t *testing.T) {
	flash, faults := []byte(eightFlash(t)), []int{1, 2, 3}
	r := Boot(flash, Key("seed"), 5, faults[:0], 0)
	copy(flash[300:], "another image")
	faults[0] = 0
	wantReport(t, "P2: flash is written into behind the boot", r, eightStarted(7))
	if r := Boot(flash, Key("seed"), 5, nil, 0); r.Err != api.ErrDigest || len(r.Starts) != 0 {
		t.Errorf("P2: a boot answers for what flash was ahead: %#v", r)
	}
	if r := Boot(flash, Key("seed"), 5, faults, 0); r.Err != api.ErrRead || len(r.Codes) != 0 {
		t.Errorf("P2: a boot answers for what faults were ahead: %#v", r)
	}
	clear(flash)
	wantReport(t, "P2: no manifest any more", Boot(flash, Key("seed"), 5, nil, 0), stopped(api.ErrManifest, 5))
	wantReport(t, "P2: and another flash", bootOf(eightFlash(t), 5, nil, 0), eightStarted(7))
}

// spoil: writes into all lists of a report, and into their spare room.
func spoil(r api.Report) {
	for i := range r.Codes[:cap(r.Codes)] {
		r.Codes[:cap(r.Codes)][i] = -1
	}
	for i := range r.Log[:cap(r.Log)] {
		r.Log[:cap(r.Log)][i] = api.Entry{Core: -1, Digest: "spoilt"}
	}
	for i := range r.Starts[:cap(r.Starts)] {
		r.Starts[:cap(r.Starts)][i] = api.Start{Core: -1, At: -1, Image: "spoilt"}
	}
}

func TestP2WhatBootAnswersIsNewMemory(t *testing.T) {
	for what, run := range shortBoots() {
		flash, faults := []byte(eightFlash(t)), []int{-3, 302, 304}
		first, second := run(flash, faults), run(flash, faults)
		want := modelCopy(second)
		wantReport(t, "P2: "+what+": the same twice", first, want)
		spoil(first)
		// Asked for ahead of the next call, which might write it anew.
		wantReport(t, "P2: "+what+": written into one answer, another is", second, want)
		wantReport(t, "P2: "+what+": written into one answer, a later one is", run(flash, faults), want)
		if string(flash) != eightFlash(t) || !slices.Equal(faults, []int{-3, 302, 304}) {
			t.Errorf("P2: %s: written into an answer, what was handed in is another", what)
		}
	}
}

// modelCopy: a report that shares no list with r.
func modelCopy(r api.Report) api.Report {
	r.Codes = append([]api.Errno{}, r.Codes...)
	r.Log = append([]api.Entry{}, r.Log...)
	r.Starts = append([]api.Start{}, r.Starts...)
	return r
}

// Whichever core is faster, on as many processors as there are and on one.
func TestP2TheSameBootAgainAndAgain(t *testing.T) {
	images := []string{strings.Repeat("0", 20000), "1", strings.Repeat("2", 5000), "3", strings.Repeat("4", 9000), "5", "66", strings.Repeat("7", 20000)}
	m := api.Manifest{Version: 7}
	off := 300
	for _, image := range images {
		m.Parts = append(m.Parts, partOf(off, image, 0))
		off += len(image)
	}
	flash := flashOf(t, off, m, images...)
	right := started(7, m.Parts, images)
	wrong := modelBoot(with(flash, m.Parts[1].Off, '!'), Key("seed"), 5, []int{m.Parts[3].Off, m.Parts[6].Off}, 0)
	for _, processors := range []int{1, 2, runtime.NumCPU()} {
		was := runtime.GOMAXPROCS(processors)
		for range 60 {
			wantReport(t, "P2: again", bootOf(flash, 5, nil, 0), right)
			wantReport(t, "P2: again, with errors", bootOf(with(flash, m.Parts[1].Off, '!'), 5, []int{m.Parts[3].Off, m.Parts[6].Off}, 0), wrong)
		}
		runtime.GOMAXPROCS(was)
	}
}

func TestP2BootsSideBySide(t *testing.T) {
	var group sync.WaitGroup
	shared, faults := []byte(eightFlash(t)), []int{299, 1000}
	one := exampleFlash(t)
	for i := range 64 {
		group.Go(func() {
			wantReport(t, "P2: side by side", Boot(shared, Key("seed"), 5, faults, 0), eightStarted(7))
			wantReport(t, "P2: side by side, another flash", bootOf(one, i, nil, 0), exampleStarted(258))
			wantReport(t, "P2: side by side, a fault", bootOf(one, i, []int{300 + i%4}, 0), unread(i))
			wantReport(t, "P2: side by side, a cut", Boot(shared, Key("seed"), i%8, faults, 1), withCut(eightStarted(7), i%8))
		})
	}
	group.Wait()
}
