package record

import (
	"iter"

	"ledge/api"
	"ledge/sums"
)

const (
	blockFront = 3 // how many entries, and how many bytes these are
	entryFront = 3 // the kind, and how many bytes key and value have

	kindPut    = 'p'
	kindDelete = 'd'
)

// Entry is a put of an item, or a delete of its key.
type Entry struct {
	Put  bool
	Item api.Item
}

// IsRight tells whether key and value may be such.
func (e Entry) IsRight() bool { return IsKey(e.Item.Key) && IsValue(e.Item.Value) }

// size tells how many bytes an entry has.
func (e Entry) size() int { return entryFront + len(e.Item.Key) + len(e.Item.Value) }

// appendTo appends an entry's bytes.
func (e Entry) appendTo(b []byte) []byte {
	kind := byte(kindDelete)
	if e.Put {
		kind = kindPut
	}
	b = append(b, kind, byte(len(e.Item.Key)), byte(len(e.Item.Value)))
	b = append(b, e.Item.Key...)
	return append(b, e.Item.Value...)
}

// Block is a block's entries, and how many bytes it has in all.
type Block struct {
	Entries []Entry
	Size    int
}

// ReadBlock reads the block that begins at this byte of a log whose head is c.
// What is ahead of it and behind it is not looked at.
func ReadBlock(log string, c api.Config, at int) (Block, bool) {
	if at < HeadSize || at > len(log)-blockFront {
		return Block{}, false
	}
	count, size := int(log[at]), sums.Low(log[at+1:at+blockFront])
	end := at + blockFront + size
	if count == 0 || count > 1 && size > c.Block || end > len(log)-sums.CheckSize {
		return Block{}, false
	}
	// The entries come ahead of the check: a length that lies is found out by
	// them after a few bytes, however long it is.
	entries, ok := readEntries(log[at+blockFront:end], count)
	end += sums.CheckSize
	if !ok || !sums.Holds(log[at:end]) {
		return Block{}, false
	}
	return Block{Entries: entries, Size: end - at}, true
}

// blocks goes through the blocks of a log whose head is c, from the first on,
// up to where no right one begins; beside each it tells where that begins.
func blocks(log string, c api.Config) iter.Seq2[int, Block] {
	return func(yield func(int, Block) bool) {
		for at := HeadSize; ; {
			b, ok := ReadBlock(log, c, at)
			if !ok || !yield(at, b) {
				return
			}
			at += b.Size
		}
	}
}

// Whole tells what a log whose head is c has up to its last whole block, of
// those from the first on that are right.
func Whole(log string, c api.Config) string {
	end := HeadSize
	for at, b := range blocks(log, c) {
		end = at + b.Size
	}
	return log[:end]
}

// readEntries reads so many entries, which must have all bytes of s.
func readEntries(s string, count int) ([]Entry, bool) {
	entries := make([]Entry, 0, count)
	for range count {
		e, rest, ok := readEntry(s)
		if !ok {
			return nil, false
		}
		entries, s = append(entries, e), rest
	}
	return entries, s == ""
}

// readEntry reads the entry that s begins with, and tells what is behind it.
func readEntry(s string) (Entry, string, bool) {
	if len(s) < entryFront || s[0] != kindPut && s[0] != kindDelete {
		return Entry{}, "", false
	}
	put, key, value := s[0] == kindPut, int(s[1]), int(s[2])
	s = s[entryFront:]
	if len(s) < key+value || !put && value != 0 {
		return Entry{}, "", false
	}
	e := Entry{Put: put, Item: api.Item{Key: s[:key], Value: s[key : key+value]}}
	if !e.IsRight() {
		return Entry{}, "", false
	}
	return e, s[key+value:], true
}
