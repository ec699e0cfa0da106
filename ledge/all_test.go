package ledge_test

import (
	"slices"
	"strconv"
	"sync"
	"testing"

	"ledge/api"
	"ledge/ledge"
)

func wantAll(t *testing.T, what string, s *ledge.Store, stop *ledge.Stop, want ...api.Item) {
	t.Helper()
	if l, e := s.All(stop); !slices.Equal(l, want) || e != api.OK {
		t.Errorf("%s: All = %v, %d, want %v", what, l, e, want)
	}
}

func wantNoAll(t *testing.T, what string, s *ledge.Store, stop *ledge.Stop, want api.Errno) {
	t.Helper()
	if l, e := s.All(stop); len(l) != 0 || e != want {
		t.Errorf("%s: All = %v, %d, want none and %d", what, l, e, want)
	}
}

// full: a disk with these keys put, each a block, and an index.
func full(t *testing.T, keys int) (*ledge.Store, []api.Item) {
	t.Helper()
	s := created(t, api.MaxRoom, api.Config{Block: 1, Bits: 32})
	var items []api.Item
	for i := range keys {
		item := api.Item{Key: strconv.Itoa(i), Value: strconv.Itoa(-i)}
		wantPut(t, s, item.Key, item.Value)
		items = append(items, item)
	}
	wantFlush(t, s)
	wantBuild(t, s)
	return s, items
}

// calledStop: a stop that was called so many times.
func calledStop(times int) *ledge.Stop {
	stop := ledge.NewStop()
	for range times {
		stop.Stop()
	}
	return stop
}

// P7: all live items, by their places, not by keys or slots.
func TestP7All(t *testing.T) {
	for _, c := range []api.Config{{Block: 12, Bits: 32}, {Block: 400, Bits: 2}, {Block: 1}, {Block: 30, Seed: 9, Bits: 31}} {
		s := created(t, 10000, c)
		for _, key := range []string{"z", "b", "a", "\x00", "y"} {
			wantPut(t, s, key, "1")
		}
		wantDelete(t, s, "a")
		wantDelete(t, s, "none")
		wantPut(t, s, "b", "2")
		wantDelete(t, s, "y")
		wantPut(t, s, "y", "")
		wantFlush(t, s)
		wantBuild(t, s)
		want := []api.Item{{Key: "z", Value: "1"}, {Key: "\x00", Value: "1"}, {Key: "b", Value: "2"}, {Key: "y"}}
		wantAll(t, "a stop that is nil", s, nil, want...)
		wantAll(t, "a stop that was not called", s, ledge.NewStop(), want...)
		wantPut(t, s, "a", "waits")
		wantAll(t, "what waits", s, nil, want...)
	}
}

// P7: more than nine entries in a block, and blocks beyond byte 255: places
// rise as numbers do.
func TestP7AllInOrder(t *testing.T) {
	s := created(t, api.MaxRoom, api.Config{Block: 400, Bits: 3})
	var want []api.Item
	for i := range 500 {
		item := api.Item{Key: strconv.Itoa(i * 7919 % 500), Value: strconv.Itoa(i)}
		wantPut(t, s, item.Key, item.Value)
		want = append(want, item)
	}
	wantFlush(t, s)
	wantBuild(t, s)
	wantAll(t, "many", s, nil, want...)
}

// P7: All without an index, and by one that is old; a stop that was called
// takes no error away.
func TestP7AllErrors(t *testing.T) {
	s := newDisk(t, 1000)
	stops := []*ledge.Stop{nil, ledge.NewStop(), calledStop(1)}
	for _, stop := range stops {
		wantNoAll(t, "no log", s, stop, api.ErrNone)
	}
	wantAnswer(t, "Create", s.Create(api.Config{Block: 10}), api.OK)
	wantPut(t, s, "a", "x")
	wantFlush(t, s)
	for _, stop := range stops {
		wantNoAll(t, "no index", s, stop, api.ErrNone)
	}
	wantBuild(t, s)
	wantPut(t, s, "b", "y")
	wantFlush(t, s)
	for _, stop := range stops {
		wantNoAll(t, "an old index", s, stop, api.ErrOld)
	}
	wantBuild(t, s)
	wantAll(t, "built again", s, nil, api.Item{Key: "a", Value: "x"}, api.Item{Key: "b", Value: "y"})
}

// P7: a stop that was called ahead, once or twice; it stays called, and stops
// no other.
func TestP7CalledAhead(t *testing.T) {
	s, items := full(t, 5)
	one, two, other := calledStop(1), calledStop(2), ledge.NewStop()
	for range 2 {
		wantNoAll(t, "called once", s, one, api.OK)
		wantNoAll(t, "called twice", s, two, api.OK)
		wantAll(t, "another", s, other, items...)
		wantAll(t, "nil", s, nil, items...)
	}
	other.Stop()
	wantNoAll(t, "called between", s, other, api.OK)
}

// P7: a stop that is called while All goes on, by several at once: what is
// told are the first of all items.
func TestP7CalledMeanwhile(t *testing.T) {
	s, items := full(t, 2000)
	for i := range 40 {
		stop := ledge.NewStop()
		var callers sync.WaitGroup
		for range 3 {
			callers.Go(func() {
				spin := make([]byte, i*5000)
				for j := range spin {
					spin[j]++
				}
				stop.Stop()
			})
		}
		l, e := s.All(stop)
		callers.Wait()
		if e != api.OK || len(l) > len(items) || !slices.Equal(l, items[:len(l)]) {
			t.Fatalf("All, stopped, = %d items, %d, want the first of %d", len(l), e, len(items))
		}
		wantNoAll(t, "called by now", s, stop, api.OK)
	}
}

// P1: lists that came out are their owner's: written full, their spare room
// too, and appended to, they change nothing that comes later, nor does a
// later call change them.
func TestP1Lists(t *testing.T) {
	s, items := full(t, 5)
	first, _ := s.All(nil)
	second, _ := s.All(nil)
	whole := first[:cap(first)]
	for i := range whole {
		whole[i] = api.Item{Key: "mine", Value: "mine"}
	}
	first = append(first, api.Item{Key: "more"})
	if !slices.Equal(second, items) {
		t.Errorf("a list was changed by another's owner: %v", second)
	}
	wantAll(t, "behind that", s, nil, items...)
	mine := slices.Clone(first)
	wantPut(t, s, "5", "-5")
	wantFlush(t, s)
	wantBuild(t, s)
	wantAll(t, "one more", s, nil, append(items, api.Item{Key: "5", Value: "-5"})...)
	if !slices.Equal(first, mine) || !slices.Equal(second, items) {
		t.Errorf("a later call changed a list: %v, %v", first, second)
	}
}
