package signature

import (
	"slices"
	"strings"
	"testing"

	"keystone/api"
)

func TestSplit(t *testing.T) {
	full := digits{15, 15, 15, 15, 15, 15, 15, 15, 15, 15, 15, 15, 15, 15, 15, 15, 0, 0}
	none := digits{16: 15}
	low := digits{15, 0, 15, 0, 15, 0, 15, 0, 15, 0, 15, 0, 15, 0, 15, 0, 7, 8}
	mixed := digits{1, 2, 3, 4, 5, 6, 7, 8, 9, 10, 11, 12, 13, 14, 15, 0, 7, 8}
	for d, want := range map[string]digits{
		strings.Repeat("\xff", 8):          full,
		strings.Repeat("\x00", 8):          none,
		strings.Repeat("\x0f", 8):          low,
		"\x21\x43\x65\x87\xa9\xcb\xed\x0f": mixed,
	} {
		if got := split(d); got != want {
			t.Errorf("digits of %x: %v, want %v", d, got, want)
		}
	}
}

func TestWalkGoesOnFromAnyLink(t *testing.T) {
	end := seedLink("seed", 7, 17, lastLink)
	for k := range lastLink + 1 {
		if walk(seedLink("seed", 7, 17, k), 7, 17, k, lastLink) != end {
			t.Errorf("from link %d on another end comes out", k)
		}
	}
}

func TestLinksAllDiffer(t *testing.T) {
	seen := map[string]bool{}
	for leaf := range byte(api.Leaves) {
		for chain := range byte(api.Chains) {
			for k := range lastLink + 1 {
				seen[seedLink("seed", leaf, chain, k)] = true
			}
		}
	}
	if want := api.Leaves * api.Chains * (lastLink + 1); len(seen) != want {
		t.Errorf("%d links, want %d", len(seen), want)
	}
}

func TestLevelsLeadToTheKey(t *testing.T) {
	nodes := leafNodes("seed")
	for _, want := range []int{8, 4, 2, 1} {
		if len(nodes) != want {
			t.Fatalf("a level of %d nodes, want %d", len(nodes), want)
		}
		if want > 1 {
			nodes = levelAbove(nodes)
		}
	}
	if nodes[0] != Key("seed") {
		t.Errorf("the node above all is not the key")
	}
}

func TestNodeAboveAt(t *testing.T) {
	above := nodeAbove("left", "right")
	if nodeAboveAt(0, "left", "right") != above || nodeAboveAt(1, "right", "left") != above {
		t.Errorf("the node above two hangs on which of them is gone out from")
	}
	if nodeAbove("right", "left") == above {
		t.Errorf("left and right are the same")
	}
}

func TestPieces(t *testing.T) {
	sign := "\x03" + strings.Repeat("abcdefgh", 20) + "last one"
	if piece(sign, 0) != "abcdefgh" || piece(sign, 20) != "last one" {
		t.Errorf("the pieces of a signature are %q to %q", piece(sign, 0), piece(sign, 20))
	}
	if besides != 3 {
		t.Errorf("a signature has %d nodes, want 3", besides)
	}
}

func TestReckonEnds(t *testing.T) {
	sign, e := Sign("seed", 4, []byte("b"))
	if e != api.OK {
		t.Fatalf("Sign: %d", e)
	}
	var want ends
	for chain := range want {
		want[chain] = seedLink("seed", 4, byte(chain), lastLink)
	}
	got := reckonEnds(4, []byte("b"), sign)
	if !slices.Equal(got[:], want[:]) {
		t.Errorf("the ends that come out are not those of the seed")
	}
}
