package ledge_test

import (
	"strings"
	"testing"

	"ledge/api"
)

// P6: keys and values at their bounds, of whichever bytes.
func TestP6Entries(t *testing.T) {
	keys := []string{"a", "\x00", "\xff\xfe", "pp", strings.Repeat("k", 19), strings.Repeat("k", api.MaxKey), strings.Repeat("\x00", 20)}
	values := []string{"", "v", "\x00\xff", strings.Repeat("v", 29), strings.Repeat("v", api.MaxValue)}
	for _, key := range keys {
		s := created(t, 1000, api.Config{Block: api.MaxBlock, Bits: 32})
		var entries []string
		for _, value := range values {
			wantPut(t, s, key, value)
			entries = append(entries, put(key, value))
		}
		wantDelete(t, s, key)
		entries = append(entries, del(key))
		wantFile(t, s, "log", head(400, 0, 32))
		wantFlush(t, s)
		wantFile(t, s, "log", head(400, 0, 32)+block(entries...))
	}
}

// P6: what is no key or value is told ahead of a log that is not open, and
// changes nothing.
func TestP6WrongEntries(t *testing.T) {
	none, open := newDisk(t, 1000), created(t, 1000, api.Config{Block: 100})
	long, longValue := strings.Repeat("k", api.MaxKey+1), strings.Repeat("v", api.MaxValue+1)
	wantPut(t, open, "b", "y")
	for _, c := range []struct{ key, value string }{
		{"", ""}, {"", "x"}, {long, ""}, {long, "x"}, {strings.Repeat("k", 257), "x"},
		{"a", longValue}, {"a", strings.Repeat("v", 256)}, {"", longValue}, {long, longValue},
	} {
		wantAnswer(t, "Put of what is none, without a log", none.Put(c.key, c.value), api.ErrArg)
		wantAnswer(t, "Put of what is none", open.Put(c.key, c.value), api.ErrArg)
	}
	for _, key := range []string{"", long, strings.Repeat("k", 257), strings.Repeat("k", 100000)} {
		wantAnswer(t, "Delete of what is none, without a log", none.Delete(key), api.ErrArg)
		wantAnswer(t, "Delete of what is none", open.Delete(key), api.ErrArg)
	}
	wantNoFile(t, none, "log")
	wantFlush(t, open)
	wantFile(t, open, "log", head(100, 0, 0)+block(put("b", "y")))
}

// P6: without an open log there is nothing to write into.
func TestP6NotOpen(t *testing.T) {
	s := newDisk(t, 1000)
	wantAnswer(t, "Put", s.Put("a", "x"), api.ErrNone)
	wantAnswer(t, "Delete", s.Delete("a"), api.ErrNone)
	wantAnswer(t, "Flush", s.Flush(), api.ErrNone)
	wantNoFile(t, s, "log", "new", "index")
	wantAnswer(t, "Create", s.Create(api.Config{Block: 100}), api.OK)
	wantFlush(t, s)
	wantFile(t, s, "log", head(100, 0, 0))
}

// P6: entries wait as long as they come to Block bytes; with one byte more
// those ahead of the last are a block, to the byte.
func TestP6Block(t *testing.T) {
	h := head(20, 7, 32)
	first := []string{put("a", "x"), del("b")} // 9 bytes
	for _, c := range []struct{ value, ahead, behind string }{
		{"0123456", "", block(first[0], first[1], put("c", "0123456"))},
		{"01234567", block(first...), block(put("c", "01234567"))},
	} {
		s := created(t, 1000, api.Config{Block: 20, Seed: 7, Bits: 32})
		wantPut(t, s, "a", "x")
		wantDelete(t, s, "b")
		wantFile(t, s, "log", h)
		wantPut(t, s, "c", c.value)
		wantFile(t, s, "log", h+c.ahead)
		wantFlush(t, s)
		wantFile(t, s, "log", h+c.ahead+c.behind)
		wantFlush(t, s)
		wantFile(t, s, "log", h+c.ahead+c.behind)
	}
}

// P6: an entry that is longer than Block waits alone, and is a block alone.
func TestP6LongEntry(t *testing.T) {
	long := strings.Repeat("v", 30)
	for _, most := range []int{1, 3, 4, 33} {
		s := created(t, 1000, api.Config{Block: most})
		log := head(most, 0, 0)
		wantPut(t, s, "a", long) // nothing waits ahead of it: no block of none is written
		wantFile(t, s, "log", log)
		wantPut(t, s, "b", long)
		log += block(put("a", long))
		wantFile(t, s, "log", log)
		wantDelete(t, s, "c") // and nothing waits behind it
		log += block(put("b", long))
		wantFile(t, s, "log", log)
		wantPut(t, s, "d", long)
		log += block(del("c"))
		wantFile(t, s, "log", log)
		wantFlush(t, s)
		wantFile(t, s, "log", log+block(put("d", long)))
	}
}

// P6: the shortest entries, more than a block can have: Block is full ahead of
// the 255.
func TestP6ManyEntries(t *testing.T) {
	s := created(t, 100000, api.Config{Block: api.MaxBlock})
	log := head(400, 0, 0)
	full := make([]string, 100)
	for i := range full {
		full[i] = del("k")
	}
	for i := range 256 {
		if i == 100 || i == 200 {
			wantFile(t, s, "log", log)
			log += block(full...)
		}
		wantDelete(t, s, "k")
		wantFile(t, s, "log", log)
	}
	wantFlush(t, s)
	wantFile(t, s, "log", log+block(full[:56]...))
}

// P6: without room for the block ahead of an entry nothing is changed: the
// entry does not wait, those ahead of it wait on.
func TestP6NoRoomInPut(t *testing.T) {
	h := head(10, 0, 0)
	one, two := block(put("a", "x"), put("b", "y")), block(put("c", ""))
	s := created(t, len(h+one)-1, api.Config{Block: 10})
	wantPut(t, s, "a", "x")
	wantPut(t, s, "b", "y")
	for range 3 {
		wantAnswer(t, "Put without room", s.Put("c", ""), api.ErrRoom)
		wantAnswer(t, "Delete without room", s.Delete("c"), api.ErrRoom)
		wantAnswer(t, "Flush without room", s.Flush(), api.ErrRoom)
		wantFile(t, s, "log", h)
	}

	s = created(t, len(h+one+two)-1, api.Config{Block: 10})
	wantPut(t, s, "a", "x")
	wantPut(t, s, "b", "y")
	wantPut(t, s, "c", "") // there is room for the first two, to the byte
	wantFile(t, s, "log", h+one)
	wantAnswer(t, "Flush without room", s.Flush(), api.ErrRoom)
	wantFile(t, s, "log", h+one)
	wantPut(t, s, "d", "") // c waits on, alone; this one fits behind it
	wantAnswer(t, "Put without room", s.Put("e", ""), api.ErrRoom)
	wantFile(t, s, "log", h+one)
}

// P6: what waited while there was no room is written, to the byte, once there
// is some: an index of fewer keys gives it back.
func TestP6WaitsOn(t *testing.T) {
	value := strings.Repeat("v", 30)
	log := head(102, 0, 0) + block(put("a", ""), put("b", ""), put("c", ""), put("d", "")) + block(del("a"), del("b"), del("c"), del("d"))
	s := created(t, len(log)+104+100, api.Config{Block: 102})
	for _, key := range []string{"a", "b", "c", "d"} {
		wantPut(t, s, key, "")
	}
	wantFlush(t, s)
	wantBuild(t, s) // 104 bytes
	for _, key := range []string{"a", "b", "c", "d"} {
		wantDelete(t, s, key)
	}
	wantFlush(t, s)
	for _, key := range []string{"e", "f", "g"} {
		wantPut(t, s, key, value)
	}
	wantAnswer(t, "Put without room", s.Put("h", ""), api.ErrRoom)
	wantAnswer(t, "Delete without room", s.Delete("h"), api.ErrRoom)
	wantAnswer(t, "Flush without room", s.Flush(), api.ErrRoom)
	wantFile(t, s, "log", log)
	wantBuild(t, s) // 64 bytes
	wantFlush(t, s)
	wantFile(t, s, "log", log+block(put("e", value), put("f", value), put("g", value)))
}

// P6: what is synced, and when.
func TestP6Synced(t *testing.T) {
	h, one := head(4, 0, 0), block(del("a"))
	s := created(t, len(h+one)+10, api.Config{Block: 4})
	wantDelete(t, s, "a")
	wantDelete(t, s, "a")
	wantFile(t, s, "log", h+one)
	wantAnswer(t, "Flush without room", s.Flush(), api.ErrRoom) // ends ahead of the sync
	wantSynced(t, s, "log", h)

	for entries := range 4 {
		s := created(t, 1000, api.Config{Block: 4})
		log := h
		for range entries {
			wantDelete(t, s, "a")
			wantFlush(t, s)
			log += one
		}
		wantDelete(t, s, "a")
		wantDelete(t, s, "a") // writes the first, but does not sync it
		wantFile(t, s, "log", log+one)
		wantSynced(t, s, "log", log)
		wantMend(t, s)
		wantDelete(t, s, "a")
		wantDelete(t, s, "a")
		wantFlush(t, s)
		wantSynced(t, s, "log", log+one+one)
	}
}
