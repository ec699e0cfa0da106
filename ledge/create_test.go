package ledge_test

import (
	"math"
	"testing"

	"ledge/api"
	"ledge/ledge"
)

// P5: rooms at and beyond their bounds; a new disk has no file.
func TestP5Rooms(t *testing.T) {
	for _, room := range []int{0, 1, 13, 14, 99999, api.MaxRoom} {
		wantNoFile(t, newDisk(t, room), "log", "new", "index")
	}
	for _, room := range []int{-1, api.MaxRoom + 1, math.MinInt, math.MaxInt, 1 << 32} {
		if s, e := ledge.Disk(room); s != nil || e != api.ErrArg {
			t.Errorf("Disk(%d) = %v, %d, want ErrArg", room, s, e)
		}
	}
}

// P5: what the log is, to the byte, for configurations at their bounds; it is
// open then, and nothing waits.
func TestP5Create(t *testing.T) {
	for _, c := range []api.Config{
		{Block: 100, Seed: 7, Bits: 32}, {Block: 1}, {Block: 255}, {Block: 256}, {Block: api.MaxBlock},
		{Block: 1, Seed: 1}, {Block: 1, Seed: 0x12345678}, {Block: 1, Seed: topSeed},
		{Block: 1, Bits: 1}, {Block: 1, Bits: 31}, {Block: 1, Bits: 32}, {Block: 400, Seed: topSeed, Bits: 32},
	} {
		s := created(t, 1000, c)
		log := head(c.Block, c.Seed, c.Bits)
		wantFile(t, s, "log", log)
		wantNoFile(t, s, "new", "index")
		wantSynced(t, created(t, 1000, c), "log", log)
		wantFlush(t, s)
		wantFile(t, s, "log", log)
		wantPut(t, s, "a", "x")
		wantFlush(t, s)
		wantFile(t, s, "log", log+block(put("a", "x")))
	}
}

// wrongConfigs: each bound overstepped alone, and all at once.
var wrongConfigs = []api.Config{
	{}, {Block: 0, Seed: 1, Bits: 1}, {Block: -1}, {Block: api.MaxBlock + 1}, {Block: math.MinInt}, {Block: math.MaxInt}, {Block: 1<<16 + 1},
	{Block: 1, Seed: -1}, {Block: 1, Seed: topSeed + 1}, {Block: 1, Seed: math.MinInt}, {Block: 1, Seed: math.MaxInt},
	{Block: 1, Bits: -1}, {Block: 1, Bits: 33}, {Block: 1, Bits: math.MinInt}, {Block: 1, Bits: math.MaxInt}, {Block: 1, Bits: 1 << 16},
	{Block: -1, Seed: -1, Bits: -1},
}

// P5: a configuration beyond its bounds makes nothing, and is told ahead of a
// log that is there.
func TestP5WrongConfigs(t *testing.T) {
	for _, c := range wrongConfigs {
		s := newDisk(t, 1000)
		wantAnswer(t, "Create with a wrong configuration", s.Create(c), api.ErrArg)
		wantNoFile(t, s, "log", "new", "index")
		wantAnswer(t, "Put behind that", s.Put("a", "x"), api.ErrNone)
		wantAnswer(t, "Create behind that", s.Create(api.Config{Block: 1}), api.OK)
		wantAnswer(t, "Create with a wrong configuration where a log is", s.Create(c), api.ErrArg)
		wantFile(t, s, "log", head(1, 0, 0))
	}
}

// P5: where a log is, Create changes nothing: not the log, not what waits.
func TestP5There(t *testing.T) {
	s := created(t, 1000, api.Config{Block: 10, Seed: 7, Bits: 3})
	wantPut(t, s, "a", "x")
	wantAnswer(t, "Create again", s.Create(api.Config{Block: 20}), api.ErrThere)
	wantAnswer(t, "Create the same again", s.Create(api.Config{Block: 10, Seed: 7, Bits: 3}), api.ErrThere)
	wantFile(t, s, "log", head(10, 7, 3))
	wantPut(t, s, "b", "y")
	wantPut(t, s, "c", "z")
	wantFile(t, s, "log", head(10, 7, 3)+block(put("a", "x"), put("b", "y")))
}

// P5: without room for the head a log is left that has no bytes, and that is
// not open.
func TestP5NoRoom(t *testing.T) {
	for _, room := range []int{0, 1, 13} {
		s := newDisk(t, room)
		wantAnswer(t, "Create without room", s.Create(api.Config{Block: 100}), api.ErrRoom)
		wantFile(t, s, "log", "")
		wantNoFile(t, s, "new", "index")
		wantAnswer(t, "Put behind that", s.Put("a", "x"), api.ErrNone)
		wantAnswer(t, "Delete behind that", s.Delete("a"), api.ErrNone)
		wantAnswer(t, "Flush behind that", s.Flush(), api.ErrNone)
		wantAnswer(t, "Create behind that", s.Create(api.Config{Block: 100}), api.ErrThere)
		wantAnswer(t, "Build behind that", s.Build(), api.ErrForm)
		wantNoFile(t, s, "new", "index")
	}
	wantFile(t, created(t, 14, api.Config{Block: 100}), "log", head(100, 0, 0))
}

// P1: disks do not touch one another.
func TestP1TwoDisks(t *testing.T) {
	a, b := newDisk(t, 1000), newDisk(t, 30)
	wantAnswer(t, "Create", a.Create(api.Config{Block: 10}), api.OK)
	wantNoFile(t, b, "log")
	wantAnswer(t, "Put where no log is", b.Put("b", "y"), api.ErrNone)
	wantPut(t, a, "a", "x")
	wantAnswer(t, "Create", b.Create(api.Config{Block: 20, Seed: 1, Bits: 2}), api.OK)
	wantPut(t, b, "b", "y")
	wantFlush(t, a)
	wantBuild(t, a)
	wantNoFile(t, b, "index")
	wantGet(t, b, "a", "", api.ErrNone)
	wantFile(t, b, "log", head(20, 1, 2))
	wantFlush(t, b)
	wantFile(t, a, "log", head(10, 0, 0)+block(put("a", "x")))
	wantFile(t, b, "log", head(20, 1, 2)+block(put("b", "y")))
	wantAnswer(t, "Build without room", b.Build(), api.ErrRoom)
	wantGet(t, a, "a", "x", api.OK)
	wantNoFile(t, a, "new")
}
