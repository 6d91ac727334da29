package manifest

import (
	"testing"

	"keystone/api"
)

func TestWordsLeadBack(t *testing.T) {
	for n := range api.MaxWord + 1 {
		b := appendWord([]byte("x"), n)
		if len(b) != 3 || word(b[1:]) != n {
			t.Fatalf("the word %d: %x", n, b)
		}
	}
	if b := appendWord(nil, 258+1); b[0] != 3 || b[1] != 1 {
		t.Errorf("the lower byte is not first: %x", b)
	}
}

func TestExtent(t *testing.T) {
	for s, want := range map[string]int{
		"KS\x00\x00\x00":                             5,
		"KS\x00\x00\x00behind":                       5,
		"KS\x00\x00\x0112345678901234":               19,
		"KS\x00\x00\x0112345678901234behind":         19,
		"KS\x00\x00\x021234567890123412345678901234": 33,
	} {
		if n, ok := extent([]byte(s)); n != want || !ok {
			t.Errorf("extent of %q: %d, %v, want %d", s, n, ok, want)
		}
	}
	for _, s := range []string{"", "KS", "KS\x00\x00", "ks\x00\x00\x00", "KS\x00\x00\x011234567890123"} {
		if _, ok := extent([]byte(s)); ok {
			t.Errorf("%q has an extent", s)
		}
	}
}

func TestCounts(t *testing.T) {
	for n := -2; n < 300; n++ {
		if got := isCount(n); got != (n >= 1 && n <= 8) {
			t.Errorf("%d parts: %v", n, got)
		}
	}
}
