package keystone

import (
	"bytes"
	"encoding/hex"
	"math"
	"runtime"
	"strings"
	"sync"
	"testing"
	"time"

	"keystone/api"
)

var (
	seeds    = []string{"", "\x00", "seed", "seeD", "\x00\xff", "é", strings.Repeat("long", 50)}
	messages = []string{"", "\x00", "what is signed", "\xff\x80\x00", strings.Repeat("m", 300)}
	noLeaves = []int{-1, 8, -8, 9, 15, 255, 256, 263, -249, math.MaxInt32, math.MinInt32, math.MaxInt, math.MinInt}
)

// fromHex: bytes written by hand.
func fromHex(t *testing.T, s string) string {
	t.Helper()
	b, err := hex.DecodeString(s)
	if err != nil {
		t.Fatal(err)
	}
	return string(b)
}

// mustSign: a signature with a leaf that there is.
func mustSign(t *testing.T, seed string, leaf int, b string) string {
	t.Helper()
	s, e := Sign(seed, leaf, []byte(b))
	if e != api.OK {
		t.Fatalf("P4: Sign(%q, %d, %q): error %d", seed, leaf, b, e)
	}
	return s
}

// with: s with another byte at i.
func with(s string, i int, c byte) string { return s[:i] + string([]byte{c}) + s[i+1:] }

// callAll: every call of stage 1, with whatever is given.
func callAll(s string, n int, b []byte) []any {
	sign, e := Sign(s, n, b)
	return []any{Digest(b), Key(s), sign, e, Verify(s, b, s), Verify(Key(s), b, sign), Verify(s, b, string(b))}
}

func TestP1NoCallPanicsAtAnything(t *testing.T) {
	before := runtime.NumGoroutine()
	texts := append([]string{"KS", strings.Repeat("\x00", 169), strings.Repeat("\xff", 169), strings.Repeat("\x07", 168), strings.Repeat("\x07", 170)}, seeds...)
	for _, s := range texts {
		for _, n := range append([]int{0, 7}, noLeaves...) {
			for _, b := range [][]byte{nil, {}, []byte(s), make([]byte, 169)} {
				callAll(s, n, b)
			}
		}
	}
	for i := 0; runtime.NumGoroutine() > before; i++ {
		if i == 100 {
			t.Fatalf("P1: %d goroutines, %d before", runtime.NumGoroutine(), before)
		}
		time.Sleep(time.Millisecond)
	}
}

func TestP1WithAnErrorAllElseIsEmpty(t *testing.T) {
	for _, leaf := range noLeaves {
		if s, e := Sign("seed", leaf, []byte("b")); s != "" || e != api.ErrLeaf {
			t.Errorf("P1: Sign with leaf %d: %x, %d", leaf, s, e)
		}
	}
}

func TestP2NothingHandedInIsWrittenInto(t *testing.T) {
	whole := []byte("ahead|what is signed|behind")
	was := bytes.Clone(whole)
	b := whole[6:20]
	sign := mustSign(t, "seed", 3, string(b))
	Digest(b)
	Sign("seed", 3, b)
	Sign("seed", 8, b)
	if !Verify(Key("seed"), b, sign) || Verify("", b, sign) {
		t.Errorf("P5: Verify of a part of a list")
	}
	if !bytes.Equal(whole, was) {
		t.Errorf("P2: handed in %q, behind the calls it is %q", was, whole)
	}
}

func TestP2NothingHandedInIsKept(t *testing.T) {
	b := []byte("what is signed")
	d := Digest(b)
	s, _ := Sign("seed", 6, b)
	Verify(Key("seed"), b, s)
	heldDigest, heldSign := strings.Clone(d), strings.Clone(s)
	clear(b)
	if d != heldDigest || s != heldSign {
		t.Errorf("P2: an answer changes with the list that was handed in")
	}
	if Digest(b) != modelDigest(string(b)) || Verify(Key("seed"), b, s) {
		t.Errorf("P2: a call answers for what the list was ahead")
	}
}

func TestP2AnswersHangOnArgumentsAlone(t *testing.T) {
	want := make([][]any, 8)
	for i := range want {
		want[i] = callAll(seeds[i%len(seeds)], i, []byte(messages[i%len(messages)]))
	}
	var group sync.WaitGroup
	for i := range 64 {
		group.Go(func() {
			i := i % 8
			for n, got := range callAll(seeds[i%len(seeds)], i, []byte(messages[i%len(messages)])) {
				if got != want[i][n] {
					t.Errorf("P2: side by side: answer %d is %v, want %v", n, got, want[i][n])
				}
			}
		})
	}
	group.Wait()
}

func TestP3Digest(t *testing.T) {
	long := make([]byte, 76800)
	for i := range long {
		long[i] = byte(i)
	}
	for s, want := range map[string]string{
		"":           "9cac7fbfd556b135",
		"\x00":       "a7cdd82f1373188c",
		"\x00\x00":   "286d6e3e627c50ee",
		"a":          "6a245f20e99ebda6",
		"ab":         "a043954f3502583a",
		"ba":         "fda68cdceffa8913",
		"\xff":       "1c2b9c9a88a7e388",
		"keystone":   "6e6888f367d0deb9",
		string(long): "d09859a6baecf77d",
	} {
		if got := Digest([]byte(s)); got != fromHex(t, want) {
			t.Errorf("P3: Digest of %d bytes %.20q: %x, want %s", len(s), s, got, want)
		}
	}
	if Digest(nil) != Digest([]byte{}) {
		t.Errorf("P3: Digest of nil is not that of no bytes")
	}
}

func TestP3DigestOfEveryByteAndLength(t *testing.T) {
	for n := range 256 {
		for _, s := range []string{string([]byte{byte(n)}), strings.Repeat("x", n)} {
			if got := Digest([]byte(s)); got != modelDigest(s) {
				t.Errorf("P3: Digest(%q) = %x, want %x", s, got, modelDigest(s))
			}
		}
	}
}

func TestP4Key(t *testing.T) {
	for seed, want := range map[string]string{
		"":                           "d49f1b71eed043a4",
		"seed":                       "d35d0b692b642eda",
		"seeD":                       "bf82913cfa85b7ba",
		"\x00\xff":                   "d0606896ae61838c",
		strings.Repeat("long", 1000): "da0a7f33fe233538",
	} {
		if got := Key(seed); got != fromHex(t, want) {
			t.Errorf("P4: Key(%.20q) = %x, want %s", seed, got, want)
		}
	}
}

func TestP4KeyOfModel(t *testing.T) {
	for _, seed := range seeds {
		if got, want := Key(seed), modelNode(seed, 0, 8); got != want {
			t.Errorf("P4: Key(%q) = %x, want %x", seed, got, want)
		}
	}
}

func TestP4Sign(t *testing.T) {
	for _, c := range []struct {
		seed string
		leaf int
		b    string
		want string
	}{
		{"seed", 0, "what is signed", "00" +
			"0e5f3e882bbbfce030595104888137e6daf3fd3a396dfa1f" +
			"693e746c4a20bcd2aa2a43eda2857090b7ee0a654d025043" +
			"983ec11bf9cb007cfda6832496ea935e368036e1572fcbc4" +
			"6152c8f958970db0cdea8d12cdefa3226f0dd8219fd7bceb" +
			"5a1c6739145e1d4bf33a17b049cf636d48c440cbd719c3b5" +
			"cb4a931e82b70875e6dfdf698f43e80d9768a3089b4becdc" +
			"102b620056ebbb0d3c1a27f7f759c9e30e5428370029b2a6"},
		{"seed", 7, "", "07" +
			"9655010ea573f50b68c9e24113ebfa6ba36dc95eb014dd0a" +
			"6dc10dbeb7de5d5aede71ae1c31edb77dca5f44f560317a1" +
			"8b48409ddda8fea47ae23e9f825f5f1085578a2a5f953d72" +
			"7945d31be4588f5aa1b3490894677b8adc7c04cbc2829d0d" +
			"a49d49d64b5474e1f27b50080597c4a26c0f4a6bc21add1b" +
			"89e1b73dc963d9972c566c8438bf57bed4aaaab725251b31" +
			"92f12f79079f0b566f072029ea15bd1e99d074496f7aaa92"},
		{"", 3, "\x00", "03" +
			"47e9093d06e57c2a010ffa8d60f73cd0cfa451302dc36a9e" +
			"01cc243a27fa58ee075ce8d26e7d7be97d00d5252c8dcc3d" +
			"58cec0c506f86d5fa110ce8f1cd4f2e40b17130846ed3b28" +
			"b0d44c713dd5ce3773035f42f90e4a6d12812606fd517031" +
			"44c81850d908ca8542f025efebef5fb3b35a1060ff0acf9c" +
			"9219306009fe4313ecd59ca08b464b5521b29f612a786428" +
			"bc1648020423206919cf985556649dacdbf2fbe708f66ab3"},
	} {
		if got := mustSign(t, c.seed, c.leaf, c.b); got != fromHex(t, c.want) {
			t.Errorf("P4: Sign(%q, %d, %q) = %x, want %s", c.seed, c.leaf, c.b, got, c.want)
		}
	}
}

func TestP4SignWithEveryLeaf(t *testing.T) {
	for leaf := range 8 {
		for _, b := range messages {
			got, want := mustSign(t, "seed", leaf, b), modelSign("seed", leaf, b)
			if got != want {
				t.Errorf("P4: Sign(seed, %d, %.20q) = %x, want %x", leaf, b, got, want)
			}
			if len(got) != 169 || got[0] != byte(leaf) {
				t.Errorf("P4: a signature of %d bytes that begins with %d, leaf %d", len(got), got[0], leaf)
			}
		}
	}
}

func TestP4SignOfNilAndOfNoBytes(t *testing.T) {
	got, e := Sign("seed", 2, nil)
	if want := mustSign(t, "seed", 2, ""); e != api.OK || got != want {
		t.Errorf("P4: Sign of nil: %x, %d, want %x", got, e, want)
	}
}

func TestP4SignWithNoLeaf(t *testing.T) {
	for _, leaf := range noLeaves {
		for _, b := range [][]byte{nil, []byte("what is signed")} {
			if s, e := Sign("seed", leaf, b); s != "" || e != api.ErrLeaf {
				t.Errorf("P4: Sign with leaf %d: %x, %d, want ErrLeaf", leaf, s, e)
			}
		}
	}
}

func TestP5WhatWasSignedIsRight(t *testing.T) {
	for _, seed := range seeds {
		key := Key(seed)
		for leaf := range 8 {
			for _, b := range messages {
				if !Verify(key, []byte(b), mustSign(t, seed, leaf, b)) {
					t.Errorf("P5: seed %q, leaf %d, bytes %.20q: not right", seed, leaf, b)
				}
			}
		}
	}
}

func TestP5EveryTurnedBitIsWrong(t *testing.T) {
	key, b := Key("seed"), []byte("what is signed")
	for leaf := range 8 {
		s := mustSign(t, "seed", leaf, string(b))
		for i := range 8 * len(s) {
			if Verify(key, b, with(s, i/8, s[i/8]^1<<(i%8))) {
				t.Errorf("P5: leaf %d: right with bit %d of byte %d turned", leaf, i%8, i/8)
			}
		}
	}
}

func TestP5EveryOtherLengthIsWrong(t *testing.T) {
	key, b := Key("seed"), []byte("what is signed")
	s := mustSign(t, "seed", 5, string(b))
	for n := range s {
		if Verify(key, b, s[:n]) || Verify(key, b, s[n+1:]) {
			t.Errorf("P5: right with only %d bytes", n)
		}
	}
	for _, w := range []string{s + "\x00", s + "x", "\x05" + s, s + s, s + strings.Repeat("\x00", 8)} {
		if Verify(key, b, w) {
			t.Errorf("P5: right with %d bytes", len(w))
		}
	}
}

func TestP5EveryOtherFirstByteIsWrong(t *testing.T) {
	key, b := Key("seed"), []byte("what is signed")
	s := mustSign(t, "seed", 5, string(b))
	for c := range 256 {
		if got := Verify(key, b, with(s, 0, byte(c))); got != (c == 5) {
			t.Errorf("P5: first byte %d in place of 5: %v", c, got)
		}
	}
}

// A key is looked for that would come out under a leaf that there isn't: it
// is the leaf's number alone that is wrong then.
func TestP5NoLeafIsWrongThoughTheKeyComesOut(t *testing.T) {
	b := "what is signed"
	pieces := mustSign(t, "seed", 0, b)
	for c := range 256 {
		s := with(pieces, 0, byte(c))
		if got := Verify(modelOutcome(b, s), []byte(b), s); got != (c < 8) {
			t.Errorf("P5: first byte %d, with the key that comes out: %v", c, got)
		}
	}
}

// What comes out decides, not where the pieces are from.
func TestP5AnyPiecesAreRightUnderTheKeyThatComesOut(t *testing.T) {
	for leaf := range 8 {
		for _, b := range messages {
			s := string([]byte{byte(leaf)}) + strings.Repeat("\x00\xffpieces", 21)
			key := modelOutcome(b, s)
			if !Verify(key, []byte(b), s) || Verify(key, []byte(b+"\x00"), s) {
				t.Errorf("P5: leaf %d, bytes %.20q: pieces of no seed", leaf, b)
			}
		}
	}
}

func TestP5OtherBytesAreWrong(t *testing.T) {
	key := Key("seed")
	s := mustSign(t, "seed", 1, "what is signed")
	for _, b := range []string{"", "what is signe", "what is signed\x00", "\x00what is signed", "what is signeD", "What is signed"} {
		if Verify(key, []byte(b), s) {
			t.Errorf("P5: right for %q", b)
		}
	}
	if Verify(key, nil, s) || Verify(Key("seed"), []byte("\x00"), mustSign(t, "seed", 1, "")) {
		t.Errorf("P5: right for other bytes, of which there are none")
	}
}

func TestP5OtherKeysAreWrong(t *testing.T) {
	key, b := Key("seed"), []byte("what is signed")
	s := mustSign(t, "seed", 1, string(b))
	for _, k := range []string{"", key[:7], key[1:], key + "\x00", key + key, "\x00" + key, Key("seeD"), Key(""), s} {
		if Verify(k, b, s) {
			t.Errorf("P5: right under %x", k)
		}
	}
	for i := range 64 {
		if Verify(with(key, i/8, key[i/8]^1<<(i%8)), b, s) {
			t.Errorf("P5: right under a key with bit %d turned", i)
		}
	}
}

func TestP5AnotherPlacesLinkIsWrong(t *testing.T) {
	key, b := Key("seed"), "what is signed"
	s := mustSign(t, "seed", 4, b)
	for chain, k := range modelDigits(4, b) {
		for other := range 16 {
			at := 1 + 8*chain
			w := s[:at] + modelLink("seed", 4, chain, other) + s[at+8:]
			if got := Verify(key, []byte(b), w); got != (other == k) {
				t.Errorf("P5: chain %d: link %d where digit is %d: %v", chain, other, k, got)
			}
		}
	}
}
