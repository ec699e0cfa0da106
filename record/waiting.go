package record

import (
	"ledge/api"
	"ledge/sums"
)

const maxEntries = 255 // of one block: their number has one byte

// Waiting is the entries that wait to become a block.
type Waiting struct {
	most  int // how many bytes these may have, if they are more than one
	count int
	bytes []byte
}

// NewWaiting has no entries, and waits for those of a log whose head is c.
func NewWaiting(c api.Config) *Waiting { return &Waiting{most: c.Block} }

// Any tells whether an entry waits.
func (w *Waiting) Any() bool { return w.count > 0 }

// Takes tells whether e may become a part of the same block. The first always
// may: a block of one entry is as long as that is.
func (w *Waiting) Takes(e Entry) bool {
	return !w.Any() || w.count < maxEntries && len(w.bytes)+e.size() <= w.most
}

// Add lets e wait, behind those that wait.
func (w *Waiting) Add(e Entry) {
	w.count++
	w.bytes = e.appendTo(w.bytes)
}

// Block tells the block that those that wait would become.
func (w *Waiting) Block() []byte {
	b := []byte{byte(w.count)}
	b = sums.AppendLow(b, len(w.bytes), 2)
	return sums.Seal(append(b, w.bytes...))
}

// Clear lets none wait any more.
func (w *Waiting) Clear() {
	w.count = 0
	w.bytes = w.bytes[:0]
}
