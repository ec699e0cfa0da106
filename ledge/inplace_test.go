package ledge_test

import (
	"strconv"
	"testing"

	"ledge/api"
	"ledge/ledge"
)

// Power that fails in place of each step of each call.

// halfway is a file ahead of a step: its bytes, and how many are synced.
type halfway struct {
	bytes  string
	synced int
}

// files are all files ahead of a step.
type files map[string]halfway

// left is what power leaves of them.
func (f files) left(keep int) map[string]string {
	all := map[string]string{}
	for name, h := range f {
		all[name] = h.bytes[:h.synced+min(keep, len(h.bytes)-h.synced)]
	}
	return all
}

func synced(bytes string) halfway { return halfway{bytes, len(bytes)} }

// inPlace is a call, with the files ahead of each of its steps.
type inPlace struct {
	what  string
	disk  func(t *testing.T) *ledge.Store
	ahead func(t *testing.T, s *ledge.Store) // calls that take some steps, behind Fail
	taken int                                // so many
	call  func(s *ledge.Store) api.Errno
	steps []files
}

func nothing(*testing.T, *ledge.Store) {}

// With Block 4 each entry of a key of one byte is a block: it is written when
// the next one comes.
var blockFour = api.Config{Block: 4, Bits: 32}

var (
	logHead = head(4, 0, 32)
	blockA  = block(put("a", ""))
	blockB  = block(put("b", ""))
)

func waitingA(t *testing.T) *ledge.Store {
	t.Helper()
	s := created(t, 1000, blockFour)
	wantPut(t, s, "a", "")
	return s
}

func putB(t *testing.T, s *ledge.Store) {
	t.Helper()
	wantPut(t, s, "b", "")
}

func deleteC(t *testing.T, s *ledge.Store) {
	t.Helper()
	wantDelete(t, s, "c")
}

// builtOfA: a is flushed and in the index, b waits.
func builtOfA(t *testing.T) *ledge.Store {
	t.Helper()
	s := waitingA(t)
	wantFlush(t, s)
	wantBuild(t, s)
	putB(t, s)
	return s
}

// halfNew: as builtOfA, but of a Build that power ended seven bytes are left.
func halfNew(t *testing.T) *ledge.Store {
	t.Helper()
	s := waitingA(t)
	wantFlush(t, s)
	wantFail(t, s, 2, 7)
	wantAnswer(t, "Build", s.Build(), api.ErrPower)
	wantAnswer(t, "Start", s.Start(), api.OK)
	wantMend(t, s)
	putB(t, s)
	return s
}

// halfB: a was flushed, of b's block three bytes are left; the index is that of
// both.
func halfB(t *testing.T) *ledge.Store {
	t.Helper()
	s := builtOfA(t)
	deleteC(t, s)
	wantBuild(t, s)
	lost(t, s, 3)
	return s
}

func indexOf(t *testing.T, log string) string {
	t.Helper()
	ix, e := modelIndex(log)
	if e != api.OK {
		t.Fatalf("no log: %q", log)
	}
	return ix
}

// writing are the calls that write into the log.
func writing() []inPlace {
	empty := func(t *testing.T) *ledge.Store { return newDisk(t, 1000) }
	made := func(t *testing.T) *ledge.Store { return created(t, 1000, blockFour) }
	ofA := files{"log": {logHead + blockA, 14}}
	return []inPlace{
		// Nothing can be done ahead of it: its first step can not be reached.
		{"Create", empty, nothing, 0, func(s *ledge.Store) api.Errno { return s.Create(blockFour) },
			[]files{{}, {"log": {"", 0}}, {"log": {logHead, 0}}}},
		{"Put", waitingA, putB, 1, func(s *ledge.Store) api.Errno { return s.Put("c", "") }, []files{ofA}},
		{"Delete", waitingA, putB, 1, func(s *ledge.Store) api.Errno { return s.Delete("c") }, []files{ofA}},
		{"Flush", waitingA, putB, 1, (*ledge.Store).Flush,
			[]files{ofA, {"log": {logHead + blockA + blockB, 14}}}},
		{"Flush of nothing", made, func(t *testing.T, s *ledge.Store) { wantFlush(t, s) }, 1, (*ledge.Store).Flush,
			[]files{{"log": synced(logHead)}}},
	}
}

// building are the ways in which an index is built.
func building(t *testing.T) []inPlace {
	log, ofA := halfway{logHead + blockA + blockB, len(logHead + blockA)}, synced(indexOf(t, logHead+blockA))
	ofB := indexOf(t, log.bytes)
	return []inPlace{
		{"Build beside an index", builtOfA, deleteC, 1, (*ledge.Store).Build, []files{
			{"log": log, "index": ofA},
			{"log": log, "index": ofA, "new": {"", 0}},
			{"log": log, "index": ofA, "new": {ofB, 0}},
			{"log": log, "index": ofA, "new": synced(ofB)},
		}},
		{"Build over a half", halfNew, deleteC, 1, (*ledge.Store).Build, []files{
			{"log": log, "new": synced(ofA.bytes[:7])},
			{"log": log, "new": {"", 0}},
			{"log": log, "new": {ofB, 0}},
			{"log": log, "new": synced(ofB)},
		}},
	}
}

// mending are the ways in which a log is mended.
func mending(t *testing.T) []inPlace {
	all := logHead + blockA + blockB
	ofA, ofB := synced(indexOf(t, logHead+blockA)), synced(indexOf(t, all))
	return []inPlace{
		// A log that is to be cut is not open: nothing can be done ahead of it.
		{"Mend with all steps", halfB, nothing, 0, (*ledge.Store).Mend, []files{
			{"log": synced(all[:len(logHead+blockA)+3]), "index": ofB},
			{"log": synced(logHead + blockA), "index": ofB},
			{"log": synced(logHead + blockA), "index": ofB},
		}},
		{"Mend without a cut", builtOfA, deleteC, 1, (*ledge.Store).Mend, []files{
			{"log": {all, len(logHead + blockA)}, "index": ofA},
			{"log": synced(all), "index": ofA},
		}},
		{"Mend of what is right", builtOfA, func(t *testing.T, s *ledge.Store) { wantMend(t, s) }, 1, (*ledge.Store).Mend, []files{
			{"log": synced(logHead + blockA), "index": ofA},
		}},
		{"Mend without an index", waitingA, putB, 1, (*ledge.Store).Mend, []files{
			{"log": {logHead + blockA, 14}},
		}},
	}
}

// wantInPlace: power fails in place of a step of the call; what is left, and
// that it is synced and no more is lost by a second failure.
func wantInPlace(t *testing.T, c inPlace, step, keep int) {
	t.Helper()
	s := c.disk(t)
	wantFail(t, s, c.taken+step, keep)
	c.ahead(t, s)
	wantAnswer(t, c.what, c.call(s), api.ErrPower)
	wantDown(t, s)
	wantAnswer(t, "Start", s.Start(), api.OK)
	left := c.steps[step].left(keep)
	wantFiles(t, s, left)
	wantNotOpen(t, s)
	lost(t, s, 0)
	wantFiles(t, s, left)
	wantNotOpen(t, s)
	wantMended(t, s, left)
}

// wantMended: a log that begins with a head is mended, and nothing waits.
func wantMended(t *testing.T, s *ledge.Store, left map[string]string) {
	t.Helper()
	log := left["log"]
	if len(log) < 14 {
		wantAnswer(t, "Mend of no head", s.Mend(), api.ErrForm)
		wantFiles(t, s, left)
		wantNotOpen(t, s)
		return
	}
	wantMend(t, s)
	wantFlush(t, s)
	log = modelWhole(log)
	left["log"] = log
	if left["index"] != indexOf(t, log) {
		delete(left, "index")
	}
	wantFiles(t, s, left)
	wantPut(t, s, "z", "z")
	wantFlush(t, s)
	wantFile(t, s, "log", log+block(put("z", "z")))
}

// P8: each step of each call, each with several keeps; and the call takes so
// many steps as it should, and no more: the next step of another call fails.
func TestP8InPlaceOfEachStep(t *testing.T) {
	for _, c := range append(append(writing(), building(t)...), mending(t)...) {
		t.Run(c.what, func(t *testing.T) {
			for step := range c.steps {
				if c.taken+step == 0 {
					continue // it would fail at once
				}
				for _, keep := range keeps {
					t.Run(strconv.Itoa(step)+" keeps "+strconv.Itoa(keep), func(t *testing.T) { wantInPlace(t, c, step, keep) })
				}
			}
			s := c.disk(t)
			wantFail(t, s, c.taken+len(c.steps), 0)
			c.ahead(t, s)
			wantAnswer(t, c.what+" ahead of the failure", c.call(s), api.OK)
			wantAnswer(t, "Flush", s.Flush(), api.ErrPower)
		})
	}
}

// P8: power that fails at once, between calls: what is left of each file.
func TestP8AtOnce(t *testing.T) {
	all := logHead + blockA + blockB
	for _, keep := range keeps {
		s := halfNew(t) // a is synced, b waits
		deleteC(t, s)   // b's block is written
		lost(t, s, keep)
		ix := indexOf(t, logHead+blockA)
		left := files{"log": {all, len(logHead + blockA)}, "new": synced(ix[:7])}.left(keep)
		wantFiles(t, s, left)
		wantNotOpen(t, s)
		for range 3 {
			lost(t, s, 0)
			wantFiles(t, s, left)
		}
		wantMended(t, s, left)

		s = newDisk(t, 100)
		lost(t, s, keep)
		wantNoFile(t, s, "log", "new", "index")
		wantAnswer(t, "Mend without a log", s.Mend(), api.ErrNone)
		wantAnswer(t, "Create", s.Create(blockFour), api.OK)
		wantPut(t, s, "a", "")
	}
}
