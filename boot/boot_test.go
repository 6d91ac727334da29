package boot

import (
	"bytes"
	"math"
	"runtime"
	"slices"
	"testing"
	"time"

	"keystone/api"
	"keystone/digest"
)

// partsOf: of images that lie one behind the other, from 0 on.
func partsOf(images ...string) (parts []api.Part, flash []byte) {
	for i, image := range images {
		d := digest.Of([]byte(image))
		parts = append(parts, api.Part{Off: len(flash), Len: len(image), At: i % len(image), Digest: d})
		flash = append(flash, image...)
	}
	return parts, flash
}

func TestReadGivesWhatIsThere(t *testing.T) {
	a := arbiter{flash: []byte("abcdef"), faults: []int{3, -1, 6, math.MaxInt, math.MinInt}}
	for _, c := range []struct {
		from, count int
		want        string
		ok          bool
	}{
		{0, 1, "a", true},
		{0, 3, "abc", true},
		{0, 4, "", false},
		{2, 1, "c", true},
		{2, 2, "", false},
		{3, 1, "", false},
		{4, 2, "ef", true},
		{4, 3, "", false},
		{5, 1, "f", true},
		{6, 1, "", false},
		{7, 1, "", false},
		{65535, 65535, "", false},
	} {
		if got, ok := a.read(c.from, c.count); got != c.want || ok != c.ok {
			t.Errorf("%d from %d on: %q, %t, want %q, %t", c.count, c.from, got, ok, c.want, c.ok)
		}
	}
}

// atArbiter: how many goroutines are at an arbiter, by what their stacks say.
func atArbiter() int {
	stacks := make([]byte, 1<<20)
	stacks = stacks[:runtime.Stack(stacks, true)]
	return bytes.Count(stacks, []byte("(*arbiter).read("))
}

// While one core is at flash, all others wait, each in a goroutine of its own,
// and nothing is measured.
func TestOneCoreAtATimeMayPass(t *testing.T) {
	parts, flash := partsOf("one", "two", "three", "four", "five", "six", "seven", "eight")
	b := newBoard(flash, nil, parts)
	b.arbiter.lock.Lock()
	done := make(chan []api.Errno)
	go func() { done <- b.run() }()
	for i := 0; atArbiter() < len(parts); i++ {
		if i == 2000 {
			t.Fatalf("the arbiter is held, and %d cores of %d wait for it", atArbiter(), len(parts))
		}
		time.Sleep(time.Millisecond)
	}
	select {
	case codes := <-done:
		t.Fatalf("codes %d with the arbiter held", codes)
	case <-time.After(20 * time.Millisecond):
	}
	if log := b.log.All(); len(log) != 0 {
		t.Errorf("measured with the arbiter held: %v", log)
	}
	b.arbiter.lock.Unlock()
	if codes := <-done; !slices.Equal(codes, make([]api.Errno, len(parts))) {
		t.Errorf("codes %d", codes)
	}
}

func TestTheLogIsToldInTheOrderOfCores(t *testing.T) {
	for _, order := range [][]int{{0, 1, 2, 3}, {3, 2, 1, 0}, {2, 7, 0, 5}, {6}, {}} {
		b := newBoard(nil, nil, nil)
		var want []api.Entry
		for _, core := range order {
			e := api.Entry{Core: core, Digest: "of core " + string(rune('0'+core))}
			b.log.Put(e)
			want = append(want, e)
		}
		slices.SortFunc(want, func(x, y api.Entry) int { return x.Core - y.Core })
		if got := b.entries(); !slices.Equal(got, want) {
			t.Errorf("came as %d, told as %v", order, got)
		}
	}
}

// A core whose image isn't right leaves nothing to start on.
func TestMailboxesHoldWhatIsRightOnly(t *testing.T) {
	parts, flash := partsOf("one", "two", "three", "four")
	flash[3] = 'T'
	b := newBoard(flash, []int{9}, parts)
	if codes := b.run(); !slices.Equal(codes, []api.Errno{api.OK, api.ErrDigest, api.ErrRead, api.OK}) {
		t.Errorf("codes %d", codes)
	}
	want := []api.Start{{Core: 0, At: 0, Image: "one"}, {Core: 3, At: 3, Image: "four"}}
	if got := b.starts(); !slices.Equal(got, want) {
		t.Errorf("in the mailboxes lie %v, want %v", got, want)
	}
}

func TestFirstError(t *testing.T) {
	for _, c := range []struct {
		codes []api.Errno
		want  api.Errno
	}{
		{nil, api.OK},
		{[]api.Errno{api.OK, api.OK}, api.OK},
		{[]api.Errno{api.OK, api.ErrDigest, api.ErrRead}, api.ErrDigest},
		{[]api.Errno{api.ErrRead, api.OK, api.ErrDigest}, api.ErrRead},
		{[]api.Errno{api.OK, api.OK, api.ErrRead}, api.ErrRead},
	} {
		if got := firstError(c.codes); got != c.want {
			t.Errorf("of %d: %d, want %d", c.codes, got, c.want)
		}
	}
}

func TestRegisterShowsOrderAndCores(t *testing.T) {
	a, b := api.Entry{Core: 0, Digest: "abcdefgh"}, api.Entry{Core: 1, Digest: "ijklmnop"}
	other := api.Entry{Core: 2, Digest: a.Digest}
	seen := map[string]int{}
	logs := [][]api.Entry{nil, {a}, {b}, {other}, {a, b}, {b, a}, {a, a}, {other, b}}
	for i, log := range logs {
		r := register(log)
		if was, ok := seen[r]; ok || len(r) != api.DigestSize {
			t.Errorf("%v and %v have the register %x", logs[was], log, r)
		}
		seen[r] = i
	}
	if register(nil) != noughts || len(noughts) != api.DigestSize {
		t.Errorf("the register of no entries is %x", register(nil))
	}
}
