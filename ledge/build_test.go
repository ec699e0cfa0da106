package ledge_test

import (
	"strconv"
	"strings"
	"testing"

	"ledge/api"
	"ledge/ledge"
)

// P7: Build without a log, and of a log that says nothing.
func TestP7BuildOfNothing(t *testing.T) {
	s := newDisk(t, 1000)
	wantAnswer(t, "Build without a log", s.Build(), api.ErrNone)
	wantNoFile(t, s, "log", "new", "index")

	s = created(t, 1000, api.Config{Block: 10})
	wantBuild(t, s)
	wantFile(t, s, "index", index(head(10, 0, 0), 0, 0, empty, empty, empty, empty))
	wantFile(t, s, "log", head(10, 0, 0))
	wantNoFile(t, s, "new")
	wantGet(t, s, "a", "", api.ErrNone)
	if l, e := s.All(nil); len(l) != 0 || e != api.OK {
		t.Errorf("All of nothing = %v, %d", l, e)
	}
}

// P7: the files behind a Build, to the byte; what waits is not in the index,
// and waits on.
func TestP7Build(t *testing.T) {
	s := created(t, 1000, api.Config{Block: 10})
	wantPut(t, s, "a", "x")
	wantPut(t, s, "b", "y")
	wantPut(t, s, "c", "z") // waits
	log := head(10, 0, 0) + block(put("a", "x"), put("b", "y"))
	want := index(log, 2, 1, slot(0, 14, 0), slot(0, 14, 1), empty, empty)
	wantBuild(t, s)
	wantFile(t, s, "log", log)
	wantFile(t, s, "index", want)
	wantNoFile(t, s, "new")
	wantGet(t, s, "a", "x", api.OK)
	wantGet(t, s, "b", "y", api.OK)
	wantGet(t, s, "c", "", api.ErrNone)

	wantBuild(t, s) // again, of the same
	wantFile(t, s, "index", want)
	wantNoFile(t, s, "new")

	wantFlush(t, s)
	second := len(log)
	log += block(put("c", "z"))
	wantFile(t, s, "log", log)
	wantFile(t, s, "index", want)
	wantBuild(t, s)
	want = index(log, 3, 2, slot(0, 14, 0), slot(0, 14, 1), slot(0, second, 0), empty)
	wantFile(t, s, "index", want)
	wantSynced(t, s, "index", want)
}

// P7: Build syncs the index, not the log.
func TestP7BuildSyncs(t *testing.T) {
	s := created(t, 1000, api.Config{Block: 4})
	wantPut(t, s, "a", "")
	wantPut(t, s, "b", "")
	wantBuild(t, s)
	ix, _ := s.File("index")
	wantSynced(t, s, "log", head(4, 0, 0))
	wantFile(t, s, "index", ix)
}

// P7: the log, the old index and the new one must have room at one time; if
// not, a `new` without bytes is left, and the old index.
func TestP7NoRoom(t *testing.T) {
	h := head(10, 0, 0)
	none := index(h, 0, 0, empty, empty, empty, empty)
	for _, c := range []struct {
		room int
		want api.Errno
	}{{14, api.ErrRoom}, {14 + 63, api.ErrRoom}, {14 + 64, api.OK}} {
		s := created(t, c.room, api.Config{Block: 10})
		wantAnswer(t, "Build", s.Build(), c.want)
		wantFile(t, s, "log", h)
		if c.want == api.OK {
			wantFile(t, s, "index", none)
			wantNoFile(t, s, "new")
			continue
		}
		wantFile(t, s, "new", "")
		wantNoFile(t, s, "index")
		wantGet(t, s, "a", "", api.ErrNone)
	}

	s := created(t, 14+64+63, api.Config{Block: 10})
	wantBuild(t, s)
	for range 2 {
		wantAnswer(t, "Build beside an index", s.Build(), api.ErrRoom)
		wantFile(t, s, "new", "")
		wantFile(t, s, "index", none)
		wantGet(t, s, "a", "", api.ErrNone)
	}
	s = created(t, 14+64+64, api.Config{Block: 10})
	wantBuild(t, s)
	wantBuild(t, s)
	wantFile(t, s, "index", none)
}

// P7: a `new` that a Build without room left is no hindrance to the next one.
func TestP7NewAgain(t *testing.T) {
	log := head(400, 0, 0) + block(put("a", ""), put("b", ""), put("c", ""), put("d", "")) + block(del("d"))
	s := created(t, len(log)+64, api.Config{Block: 400})
	for _, key := range []string{"a", "b", "c", "d"} {
		wantPut(t, s, key, "")
	}
	wantFlush(t, s)
	wantAnswer(t, "Build without room for 8 slots", s.Build(), api.ErrRoom)
	wantFile(t, s, "new", "")
	wantDelete(t, s, "d")
	wantFlush(t, s)
	wantBuild(t, s)
	wantFile(t, s, "index", index(log, 3, 2, slot(0, 14, 0), slot(0, 14, 1), slot(0, 14, 2), empty))
	wantNoFile(t, s, "new")
}

// P7: with more live keys than a log may have, its bytes are none.
func TestP7TooManyLive(t *testing.T) {
	s := created(t, api.MaxRoom, api.Config{Block: 400, Bits: 32})
	for i := range api.MaxLive {
		wantPut(t, s, strconv.Itoa(i), "")
	}
	wantFlush(t, s)
	wantBuild(t, s)
	wantGet(t, s, "1999", "", api.OK)
	before, _ := s.File("index")
	wantPut(t, s, "one more", "")
	wantFlush(t, s)
	wantAnswer(t, "Build of too many", s.Build(), api.ErrForm)
	wantFile(t, s, "index", before)
	wantNoFile(t, s, "new")
	wantGet(t, s, "1999", "", api.ErrOld)
	wantDelete(t, s, "7")
	wantFlush(t, s)
	wantBuild(t, s)
	wantGet(t, s, "one more", "", api.OK)
	wantGet(t, s, "7", "", api.ErrNone)
}

// P7: Get without an index, by one, and by one that is old.
func TestP7Get(t *testing.T) {
	s := newDisk(t, 10000)
	wantGet(t, s, "a", "", api.ErrNone)
	wantAnswer(t, "Create", s.Create(api.Config{Block: 20, Seed: 7, Bits: 32}), api.OK)
	wantPut(t, s, "a", "x")
	wantPut(t, s, "b", "")
	wantFlush(t, s)
	wantGet(t, s, "a", "", api.ErrNone) // there is no index
	wantBuild(t, s)
	for range 2 {
		wantGet(t, s, "a", "x", api.OK)
		wantGet(t, s, "b", "", api.OK)
		wantGet(t, s, "c", "", api.ErrNone)
	}
	for _, noKey := range []string{"", strings.Repeat("k", 21), strings.Repeat("k", 100000)} {
		wantGet(t, s, noKey, "", api.ErrNone)
	}
	wantPut(t, s, "a", "new")
	wantGet(t, s, "a", "x", api.OK) // what waits is not asked
	wantFlush(t, s)
	wantGet(t, s, "a", "", api.ErrOld)
	wantGet(t, s, "c", "", api.ErrOld)
	wantBuild(t, s)
	wantGet(t, s, "a", "new", api.OK)
	wantDelete(t, s, "a")
	wantFlush(t, s)
	wantBuild(t, s)
	wantGet(t, s, "a", "", api.ErrNone)
	wantGet(t, s, "b", "", api.OK)
}

// P8: each name, a name that is none, a file that is not there.
func TestP8File(t *testing.T) {
	noNames := []string{"", "Log", "logs", "lo", "log ", "LOG", "\x00", "log\x00", "a", strings.Repeat("log", 10000)}
	s := newDisk(t, 14+64)
	wantNoFile(t, s, noNames...)
	wantNoFile(t, s, "log", "new", "index")
	wantAnswer(t, "Create", s.Create(api.Config{Block: 10}), api.OK)
	wantFile(t, s, "log", head(10, 0, 0))
	wantNoFile(t, s, "new", "index")
	wantBuild(t, s)
	wantAnswer(t, "Build without room", s.Build(), api.ErrRoom)
	log, _ := s.File("log")
	ix, _ := ledge.Index(log)
	for range 2 {
		wantFile(t, s, "log", head(10, 0, 0))
		wantFile(t, s, "index", ix)
		wantFile(t, s, "new", "")
		wantNoFile(t, s, noNames...)
	}
}
