package record

import (
	"strings"
	"testing"

	"ledge/api"
)

func del(key string) Entry { return Entry{Item: api.Item{Key: key}} }

// With as many bytes as a block may have, 255 of the shortest entries never
// wait: the bound is tested by a block that may have more.
func TestMostEntries(t *testing.T) {
	w := NewWaiting(api.Config{Block: 5000})
	for i := range maxEntries {
		if !w.Takes(del("k")) {
			t.Fatalf("behind %d entries no other may wait", i)
		}
		w.Add(del("k"))
	}
	if w.Takes(del("k")) {
		t.Error("256 entries may wait")
	}
	if b := w.Block(); len(b) != 3+255*4+4 || b[0] != 255 {
		t.Errorf("the block has %d bytes, and says %d entries", len(b), b[0])
	}
	w.Clear()
	if w.Any() || !w.Takes(del("k")) {
		t.Error("something waits behind Clear")
	}
}

// What waits is a block that is read as what was added, at each fill.
func TestBlockIsRead(t *testing.T) {
	c := api.Config{Block: 60}
	w := NewWaiting(c)
	head := string(Head(c))
	if w.Any() {
		t.Error("something waits at first")
	}
	var entries []Entry
	for _, key := range []string{"a", "\x00", "longer", strings.Repeat("k", 20)} {
		e := Entry{Put: len(entries)%2 == 0, Item: api.Item{Key: key}}
		if e.Put {
			e.Item.Value = key
		}
		entries = append(entries, e)
		w.Add(e)
		b, ok := ReadBlock(head+string(w.Block()), c, HeadSize)
		if !ok || !w.Any() || len(b.Entries) != len(entries) || b.Entries[len(entries)-1] != e {
			t.Errorf("the block of %v is read as %v, %t", entries, b, ok)
		}
	}
}
