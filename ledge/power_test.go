package ledge_test

import (
	"math"
	"strings"
	"testing"

	"ledge/api"
	"ledge/ledge"
)

// What power leaves when it fails, and in place of which steps it fails.

// keeps: none, a few bytes, more than there are.
var keeps = []int{0, 1, 3, 10, 11, 63, 1000, math.MaxInt}

// lost: power fails at once, and the disk is started again.
func lost(t *testing.T, s *ledge.Store, keep int) {
	t.Helper()
	wantAnswer(t, "Fail at once", s.Fail(0, keep), api.OK)
	wantAnswer(t, "Start", s.Start(), api.OK)
}

func wantFail(t *testing.T, s *ledge.Store, steps, keep int) {
	t.Helper()
	wantAnswer(t, "Fail", s.Fail(steps, keep), api.OK)
}

func wantMend(t *testing.T, s *ledge.Store) {
	t.Helper()
	wantAnswer(t, "Mend", s.Mend(), api.OK)
}

// wantFiles: these files, and no other.
func wantFiles(t *testing.T, s *ledge.Store, want map[string]string) {
	t.Helper()
	for _, name := range []string{"log", "new", "index"} {
		if b, there := want[name]; there {
			wantFile(t, s, name, b)
		} else {
			wantNoFile(t, s, name)
		}
	}
}

// wantNotOpen: entries find no log that is open.
func wantNotOpen(t *testing.T, s *ledge.Store) {
	t.Helper()
	wantAnswer(t, "Put without an open log", s.Put("z", ""), api.ErrNone)
	wantAnswer(t, "Delete without an open log", s.Delete("z"), api.ErrNone)
	wantAnswer(t, "Flush without an open log", s.Flush(), api.ErrNone)
}

// wantDown: each call answers so while the disk is down; what may not be is
// told ahead of that.
func wantDown(t *testing.T, s *ledge.Store) {
	t.Helper()
	wantAnswer(t, "Create, down", s.Create(api.Config{Block: 100}), api.ErrDown)
	wantAnswer(t, "Put, down", s.Put("a", "x"), api.ErrDown)
	wantAnswer(t, "Delete, down", s.Delete("a"), api.ErrDown)
	wantAnswer(t, "Flush, down", s.Flush(), api.ErrDown)
	wantAnswer(t, "Build, down", s.Build(), api.ErrDown)
	wantAnswer(t, "Mend, down", s.Mend(), api.ErrDown)
	for _, n := range []int{0, 1, math.MaxInt} {
		wantAnswer(t, "Fail, down", s.Fail(n, 0), api.ErrDown)
		wantAnswer(t, "Fail, down", s.Fail(0, n), api.ErrDown)
	}
	for _, key := range []string{"a", "none", "", strings.Repeat("k", 21)} {
		wantGet(t, s, key, "", api.ErrDown)
	}
	for _, stop := range []*ledge.Stop{nil, ledge.NewStop(), calledStop(1)} {
		wantNoAll(t, "down", s, stop, api.ErrDown)
	}
	for _, name := range []string{"log", "new", "index", "", "none"} {
		if b, e := s.File(name); b != "" || e != api.ErrDown {
			t.Errorf("File(%q), down, = %q, %d", name, b, e)
		}
	}
	wantArgs(t, s)
}

// wantArgs: what may not be, of calls on a disk whether it is up or down.
func wantArgs(t *testing.T, s *ledge.Store) {
	t.Helper()
	for _, c := range wrongConfigs {
		wantAnswer(t, "Create with a wrong configuration", s.Create(c), api.ErrArg)
	}
	wantAnswer(t, "Put of no key", s.Put("", "x"), api.ErrArg)
	wantAnswer(t, "Put of no value", s.Put("a", strings.Repeat("v", 31)), api.ErrArg)
	wantAnswer(t, "Delete of no key", s.Delete(strings.Repeat("k", 21)), api.ErrArg)
	for _, p := range [][2]int{{-1, 0}, {0, -1}, {-1, -1}, {-1, 1}, {1, -1}, {math.MinInt, 0}, {0, math.MinInt}, {math.MinInt, math.MaxInt}} {
		wantAnswer(t, "Fail with a number below 0", s.Fail(p[0], p[1]), api.ErrArg)
	}
}

// P8: disks of all kinds, down and up again: nothing that is synced is changed
// by any call on a disk that is down.
func TestP8Down(t *testing.T) {
	log := head(4, 0, 0) + block(del("a"))
	for _, files := range []map[string]string{
		{}, {"log": ""}, {"log": log}, {"log": log, "new": "", "index": "x"}, {"log": log + "x", "index": ""},
	} {
		s := ledge.Laid(1000, files)
		wantAnswer(t, "Start, up", s.Start(), api.ErrArg)
		for range 2 {
			wantFail(t, s, 0, 0)
			wantDown(t, s)
			wantDown(t, s)
			wantAnswer(t, "Start", s.Start(), api.OK)
			wantAnswer(t, "Start again", s.Start(), api.ErrArg)
			wantFiles(t, s, files)
			wantNotOpen(t, s)
		}
	}
}

// P8: a disk that is down has a log that was open: what may not be is told
// ahead of ErrDown, ErrDown ahead of ErrNone and ErrThere; nothing of the calls
// is there behind that.
func TestP8DownWithEntries(t *testing.T) {
	s := created(t, 1000, api.Config{Block: 100})
	wantPut(t, s, "a", "x")
	wantFail(t, s, 0, 1000)
	wantDown(t, s)
	wantAnswer(t, "Start", s.Start(), api.OK)
	wantNotOpen(t, s)
	wantFiles(t, s, map[string]string{"log": head(100, 0, 0)})
	wantMend(t, s)
	wantFlush(t, s)
	wantFile(t, s, "log", head(100, 0, 0)) // what waited is lost, whatever is kept
}

// P8, P1: a number below 0 changes nothing: a Fail that was there stays, a disk
// stays up, what waits waits on.
func TestP8WrongFail(t *testing.T) {
	s := created(t, 1000, api.Config{Block: 100})
	wantPut(t, s, "a", "x")
	wantArgs(t, s)
	wantFail(t, s, 2, 5)
	wantArgs(t, s)
	wantFlush(t, s)
	wantFile(t, s, "log", head(100, 0, 0)+block(put("a", "x")))
	wantPut(t, s, "b", "y")
	wantArgs(t, s)
	wantAnswer(t, "Flush", s.Flush(), api.ErrPower)
	wantDown(t, s)
}

// P8: a Fail that was there is replaced: by a later one, a sooner one, one that
// keeps another number, one at once. One that has come does not come again.
func TestP8Replaced(t *testing.T) {
	for _, c := range []struct {
		first, second [2]int
	}{
		{[2]int{1, 2}, [2]int{3, 4}},
		{[2]int{3, 4}, [2]int{1, 2}},
		{[2]int{2, 9}, [2]int{2, 0}},
		{[2]int{2, 0}, [2]int{2, 9}},
		{[2]int{1, 0}, [2]int{0, 9}},
		{[2]int{math.MaxInt, 0}, [2]int{2, math.MaxInt}},
	} {
		s := created(t, 1000, api.Config{Block: 4})
		log := head(4, 0, 0)
		wantDelete(t, s, "k")
		wantFail(t, s, c.first[0], c.first[1])
		wantFail(t, s, c.second[0], c.second[1])
		if c.second[0] > 0 {
			for range c.second[0] {
				wantDelete(t, s, "k")
				log += block(del("k"))
			}
			wantAnswer(t, "Delete", s.Delete("k"), api.ErrPower)
		}
		wantDown(t, s)
		wantAnswer(t, "Start", s.Start(), api.OK)
		wantFile(t, s, "log", log[:14+min(c.second[1], len(log)-14)])
		wantMend(t, s)
		for range 9 {
			wantDelete(t, s, "k")
			wantFlush(t, s)
		}
	}
	s := created(t, 1000, api.Config{Block: 4})
	wantFail(t, s, math.MaxInt, 0)
	for range 20 {
		wantDelete(t, s, "k")
		wantFlush(t, s)
	}
}

// P8: calls that take no step count for nothing, whatever they answer.
func TestP8NoSteps(t *testing.T) {
	s := newDisk(t, 1000)
	wantFail(t, s, 3, 0)
	for range 5 {
		wantAnswer(t, "Build", s.Build(), api.ErrNone)
		wantAnswer(t, "Mend", s.Mend(), api.ErrNone)
		wantNotOpen(t, s)
		wantArgs(t, s)
		wantGet(t, s, "a", "", api.ErrNone)
		wantNoAll(t, "nothing", s, nil, api.ErrNone)
		wantNoFile(t, s, "log", "new", "index")
		wantAnswer(t, "Start", s.Start(), api.ErrArg)
	}
	wantAnswer(t, "Create", s.Create(api.Config{Block: 100}), api.OK) // all three

	wantFail(t, s, 1, 0)
	for range 5 {
		wantAnswer(t, "Create", s.Create(api.Config{Block: 100}), api.ErrThere)
		wantArgs(t, s)
		wantPut(t, s, "a", "x") // waits
		wantDelete(t, s, "b")
		wantGet(t, s, "a", "", api.ErrNone)
		wantNoAll(t, "no index", s, nil, api.ErrNone)
		wantFile(t, s, "log", head(100, 0, 0))
		wantNoFile(t, s, "new", "index", "none")
		wantAnswer(t, "Start", s.Start(), api.ErrArg)
	}
	wantAnswer(t, "Flush", s.Flush(), api.ErrPower) // in place of the sync
	wantAnswer(t, "Start", s.Start(), api.OK)
	wantFile(t, s, "log", head(100, 0, 0))
}

// P8: nor do calls count that find what is no log, or an index.
func TestP8NoStepsWithFiles(t *testing.T) {
	log := head(4, 0, 0) + block(del("a"))
	s := ledge.Laid(1000, map[string]string{"log": log[:len(log)-1]})
	wantFail(t, s, 2, 0)
	for range 5 {
		wantAnswer(t, "Build", s.Build(), api.ErrForm)
		wantNotOpen(t, s)
	}
	wantMend(t, s)
	wantAnswer(t, "Build", s.Build(), api.ErrPower)

	s = ledge.Laid(1000, map[string]string{"log": log[:13]})
	wantFail(t, s, 1, 0)
	for range 5 {
		wantAnswer(t, "Build", s.Build(), api.ErrForm)
		wantAnswer(t, "Mend", s.Mend(), api.ErrForm)
	}
	wantFile(t, s, "log", log[:13])

	s = created(t, 1000, api.Config{Block: 100})
	wantBuild(t, s)
	wantFail(t, s, 1, 0)
	for range 5 {
		wantGet(t, s, "a", "", api.ErrNone)
		wantAll(t, "nothing", s, nil)
		wantFile(t, s, "index", index(head(100, 0, 0), 0, 0, empty, empty, empty, empty))
	}
	wantFlush(t, s)
	wantAnswer(t, "Flush", s.Flush(), api.ErrPower)
}

// P8: an append that finds no room is a step, and power may fail in its place.
func TestP8NoRoom(t *testing.T) {
	for _, call := range []struct {
		what string
		make func(s *ledge.Store) api.Errno
	}{
		{"Put", func(s *ledge.Store) api.Errno { return s.Put("b", "") }},
		{"Delete", func(s *ledge.Store) api.Errno { return s.Delete("b") }},
		{"Flush", (*ledge.Store).Flush},
	} {
		for steps := 1; steps < 4; steps++ {
			s := created(t, 14+10, api.Config{Block: 4})
			wantPut(t, s, "a", "")
			wantFail(t, s, steps, 5)
			for range steps {
				wantAnswer(t, call.what+" without room", call.make(s), api.ErrRoom)
			}
			wantAnswer(t, call.what+" without room", call.make(s), api.ErrPower)
			wantDown(t, s)
			wantAnswer(t, "Start", s.Start(), api.OK)
			wantNotOpen(t, s)
			wantMend(t, s)
			wantFlush(t, s)
			wantFiles(t, s, map[string]string{"log": head(4, 0, 0)})
		}
	}

	s := newDisk(t, 13)
	wantFail(t, s, 1, 5)
	wantAnswer(t, "Create without room", s.Create(api.Config{Block: 4}), api.ErrPower)
	wantAnswer(t, "Start", s.Start(), api.OK)
	wantFiles(t, s, map[string]string{"log": ""})

	s = created(t, 14+63, api.Config{Block: 4})
	wantFail(t, s, 3, 5)
	wantAnswer(t, "Build without room", s.Build(), api.ErrRoom) // two steps
	wantAnswer(t, "Build without room", s.Build(), api.ErrPower)
	wantAnswer(t, "Start", s.Start(), api.OK)
	wantFiles(t, s, map[string]string{"log": head(4, 0, 0), "new": ""})
}

// P1: what fails on one disk touches no other.
func TestP8TwoDisks(t *testing.T) {
	a, b := created(t, 1000, api.Config{Block: 4}), created(t, 1000, api.Config{Block: 4})
	wantPut(t, a, "a", "")
	wantPut(t, b, "b", "")
	wantFail(t, a, 1, 0)
	wantFlush(t, b)
	wantPut(t, b, "c", "")
	wantAnswer(t, "Flush", a.Flush(), api.ErrPower)
	wantAnswer(t, "Start of the other", b.Start(), api.ErrArg)
	wantFlush(t, b)
	wantDown(t, a)
	wantFile(t, b, "log", head(4, 0, 0)+block(put("b", ""))+block(put("c", "")))
	wantFail(t, b, 0, 0)
	wantAnswer(t, "Start", a.Start(), api.OK)
	wantDown(t, b)
	wantFile(t, a, "log", head(4, 0, 0))
}
