package box

import (
	"slices"
	"sync"
	"testing"
	"time"
)

func TestThingsLieAsTheyCame(t *testing.T) {
	var b Box[string]
	if got := b.All(); len(got) != 0 {
		t.Errorf("an empty box holds %q", got)
	}
	for _, s := range []string{"c", "a", "", "b", "a"} {
		b.Put(s)
	}
	for range 2 {
		if got := b.All(); !slices.Equal(got, []string{"c", "a", "", "b", "a"}) {
			t.Errorf("the box holds %q", got)
		}
	}
}

func TestThingsMayBeOfAnyType(t *testing.T) {
	type pair struct{ a, b int }
	var pairs Box[pair]
	pairs.Put(pair{1, 2})
	var lists Box[[]int]
	lists.Put(nil)
	lists.Put([]int{3})
	var inner Box[*Box[pair]]
	inner.Put(&pairs)
	if got := inner.All()[0].All(); !slices.Equal(got, []pair{{1, 2}}) || len(lists.All()) != 2 {
		t.Errorf("the boxes hold %v and %v", got, lists.All())
	}
}

func TestTwoBoxesAreTwo(t *testing.T) {
	boxes := make([]Box[int], 2)
	boxes[0].Put(1)
	if got := boxes[1].All(); len(got) != 0 {
		t.Errorf("put into one box, the other holds %d", got)
	}
}

func TestAllIsAListOfItsOwn(t *testing.T) {
	var b Box[int]
	for n := range 5 {
		b.Put(n)
		list := b.All()
		list[0] = 9
		list = append(list, 9)
		b.Put(n)
		if list[0] != 9 || list[len(list)-1] != 9 {
			t.Errorf("put into the box, an older list of it is %d", list)
		}
	}
	if got := b.All(); !slices.Equal(got, []int{0, 0, 1, 1, 2, 2, 3, 3, 4, 4}) {
		t.Errorf("written into lists of it, the box holds %d", got)
	}
}

func TestNothingIsLostSideBySide(t *testing.T) {
	const count, each = 8, 5000
	var b Box[int]
	var group sync.WaitGroup
	for i := range count {
		group.Go(func() {
			for k := range each {
				b.Put(i*each + k)
			}
		})
	}
	group.Wait()
	all := b.All()
	slices.Sort(all)
	if all = slices.Compact(all); len(all) != count*each {
		t.Errorf("%d things that differ were put in, the box holds %d", count*each, len(all))
	}
}

// While one is at the box, all others wait.
func TestTheBoxIsGuardedByItsLock(t *testing.T) {
	var b Box[int]
	for what, touch := range map[string]func(){"Put": func() { b.Put(1) }, "All": func() { b.All() }} {
		done := make(chan bool)
		b.lock.Lock()
		go func() {
			touch()
			close(done)
		}()
		select {
		case <-done:
			t.Errorf("%s does not wait", what)
		case <-time.After(20 * time.Millisecond):
		}
		b.lock.Unlock()
		<-done
	}
}
