package digest

import (
	"strings"
	"testing"
)

func TestTextAndBytesAreTheSame(t *testing.T) {
	for _, s := range []string{"", "\x00", "a", "é", "\xff\xfe\x00", strings.Repeat("keystone", 99)} {
		want := Of([]byte(s))
		if got := Begin([]byte(s)...).End(); got != want {
			t.Errorf("of %q as numbers: %x, want %x", s, got, want)
		}
		if got := Begin().Text(s).End(); got != want {
			t.Errorf("of %q as text: %x, want %x", s, got, want)
		}
	}
}

func TestPiecesAreOneBehindTheOther(t *testing.T) {
	want := Of([]byte("\x05\x06abcd"))
	for i := range 5 {
		s := "abcd"
		if got := Begin(5, 6).Text(s[:i]).Bytes([]byte(s[i:])).End(); got != want {
			t.Errorf("cut at %d: %x, want %x", i, got, want)
		}
	}
}

func TestMixIsAValue(t *testing.T) {
	m := Begin(1)
	a := m.Text("a").End()
	m.Text("b").End()
	if m.Text("a").End() != a || m.End() != Of([]byte{1}) {
		t.Errorf("what is taken in behind a mix changes it")
	}
}
