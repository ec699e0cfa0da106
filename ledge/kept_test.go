package ledge_test

import (
	"math"
	"math/rand"
	"slices"
	"strings"
	"testing"

	"ledge/api"
	"ledge/ledge"
)

// What lasts, wherever power fails.

// act is a call: 'p' and 'd' of a key, 'f' of Flush, 'b' of Build.
type act struct {
	kind       byte
	key, value string
}

// followed is a disk, and what was done on it.
type followed struct {
	s       *ledge.Store
	entries []modelEntry      // those that were taken, from the first on
	flushed int               // so many were there at the last Flush that answered OK
	built   map[string]string // what the index says that was built last
	log     string            // the log, of which it was built
}

func (f *followed) do(a act) api.Errno {
	var e api.Errno
	switch a.kind {
	case 'p':
		e = f.s.Put(a.key, a.value)
	case 'd':
		e = f.s.Delete(a.key)
	case 'f':
		if e = f.s.Flush(); e == api.OK {
			f.flushed = len(f.entries)
		}
		return e
	case 'b':
		if e = f.s.Build(); e == api.OK {
			f.log, _ = f.s.File("log")
			f.built = cameTo(modelEntries(f.log))
		}
		return e
	}
	if e == api.OK {
		f.entries = append(f.entries, modelEntry{a.kind, a.key, a.value})
	}
	return e
}

// cameTo: each key's value behind these entries.
func cameTo(entries []modelEntry) map[string]string {
	values := map[string]string{}
	for _, e := range entries {
		delete(values, e.key)
		if e.kind == 'p' {
			values[e.key] = e.value
		}
	}
	return values
}

// wantGets: Get tells what the index says that was built last, or ErrOld, or
// ErrNone; and that value, if the log and the index are as they were then.
func (f *followed) wantGets(t *testing.T) {
	t.Helper()
	log, _ := f.s.File("log")
	_, e := f.s.File("index")
	same := e == api.OK && log == f.log
	for key := 'a'; key <= 'e'; key++ {
		value, there := f.built[string(key)]
		v, e := f.s.Get(string(key))
		switch {
		case e == api.OK && there && v == value:
		case v == "" && (e == api.ErrOld || e == api.ErrNone) && !(same && there):
		default:
			t.Fatalf("Get(%q) = %q, %d, where the index says %q, %t", key, v, e, value, there)
		}
	}
}

// wantKept: the log has the first of all entries, at least those that were
// flushed; from here on these are all.
func (f *followed) wantKept(t *testing.T) {
	t.Helper()
	log, e := f.s.File("log")
	if e != api.OK || modelWhole(log) != log {
		t.Fatalf("the log, mended, is %q, %d", log, e)
	}
	got := modelEntries(log)
	if len(got) < f.flushed || len(got) > len(f.entries) || !slices.Equal(got, f.entries[:len(got)]) {
		t.Fatalf("the log has %v, of %v, of which %d were flushed", got, f.entries, f.flushed)
	}
	f.entries, f.flushed = got, len(got)
}

// mend starts the disk and mends it; if again is above 0, power fails a second
// time, in place of such a step of Mend, if it takes so many.
func (f *followed) mend(t *testing.T, again, keep int) {
	t.Helper()
	wantAnswer(t, "Start", f.s.Start(), api.OK)
	f.wantGets(t)
	if again > 0 {
		wantFail(t, f.s, again, keep)
		if e := f.s.Mend(); e == api.ErrPower {
			wantAnswer(t, "Start", f.s.Start(), api.OK)
			f.wantGets(t)
		}
		wantFail(t, f.s, math.MaxInt, 0)
	}
	wantMend(t, f.s)
	f.wantKept(t)
	f.wantGets(t)
}

// powerAt does all acts; power fails in place of the step behind so many. It
// tells whether there were as many.
func powerAt(t *testing.T, c api.Config, acts []act, steps, keep, again int) bool {
	t.Helper()
	f := &followed{s: created(t, 400, c)}
	wantFail(t, f.s, steps, keep)
	failed := steps == 0
	if failed {
		f.mend(t, again, keep)
	}
	for _, a := range acts {
		switch e := f.do(a); e {
		case api.OK, api.ErrRoom:
		case api.ErrPower:
			if failed {
				t.Fatal("power failed a second time")
			}
			failed = true
			f.mend(t, again, keep)
		default:
			t.Fatalf("%v = %d", a, e)
		}
	}
	// What was left at the end is on the disk to stay.
	f.mendAtLast(t, keep)
	return failed
}

// mendAtLast: power fails once more, between calls, and what is told then by a
// new index is what the log says.
func (f *followed) mendAtLast(t *testing.T, keep int) {
	t.Helper()
	wantFail(t, f.s, 0, keep)
	f.mend(t, 0, 0)
	if f.do(act{kind: 'b'}) == api.OK {
		f.wantGets(t)
		if f.log == "" || len(f.built) != len(cameTo(f.entries)) {
			t.Fatalf("the index says %v, the entries %v", f.built, f.entries)
		}
	}
}

// randomActs: few keys, so that they are put again and deleted.
func randomActs(r *rand.Rand) []act {
	var acts []act
	for range 5 + r.Intn(15) {
		key, value := string(rune('a'+r.Intn(5))), strings.Repeat(string(rune('0'+r.Intn(10))), r.Intn(12))
		acts = append(acts, act{kind: "pppppddffbb"[r.Intn(11)], key: key, value: value})
		if last := &acts[len(acts)-1]; last.kind != 'p' {
			last.value = ""
		}
	}
	return acts
}

// P10: power that fails in place of each step of calls of all kinds, with
// several keeps, once more while the log is mended, and once more at the end.
func TestP10WhereverPowerFails(t *testing.T) {
	r := rand.New(rand.NewSource(10))
	for range 60 {
		acts := randomActs(r)
		c := api.Config{Block: []int{1, 5, 20, 60}[r.Intn(4)], Bits: []int{0, 1, 32}[r.Intn(3)]}
		for _, keep := range []int{0, r.Intn(15), 15 + r.Intn(30), math.MaxInt} {
			for again := range 3 {
				for steps := 0; powerAt(t, c, acts, steps, keep, again); steps++ {
				}
			}
		}
	}
}

// P10: what a Flush that answered OK has written stays, whatever power takes of
// what comes behind it; a block is there wholly or not at all.
func TestP10Flushed(t *testing.T) {
	h, one := head(14, 0, 32), block(put("a", "1"), put("b", "2"))
	second := block(put("a", "3"), del("b"), put("c", "4"))
	for keep := range len(second) + 5 {
		s := created(t, 1000, api.Config{Block: 14, Bits: 32})
		wantPut(t, s, "a", "1")
		wantPut(t, s, "b", "2")
		wantFlush(t, s)
		wantBuild(t, s)
		wantPut(t, s, "a", "3")
		wantDelete(t, s, "b")
		wantPut(t, s, "c", "4")
		wantFail(t, s, 1, keep)
		wantAnswer(t, "Flush", s.Flush(), api.ErrPower) // in place of the sync
		wantAnswer(t, "Start", s.Start(), api.OK)
		if keep > 0 {
			wantGet(t, s, "a", "", api.ErrOld)
		} else {
			wantGet(t, s, "a", "1", api.OK)
		}
		wantMend(t, s)
		if keep >= len(second) {
			wantFile(t, s, "log", h+one+second)
			wantGet(t, s, "a", "", api.ErrNone) // the index is taken away
			wantBuild(t, s)
			wantAll(t, "all", s, nil, api.Item{Key: "a", Value: "3"}, api.Item{Key: "c", Value: "4"})
			continue
		}
		wantFile(t, s, "log", h+one)
		wantGet(t, s, "a", "1", api.OK) // it is the index's log again
		wantAll(t, "the first", s, nil, api.Item{Key: "a", Value: "1"}, api.Item{Key: "b", Value: "2"})
	}
}
