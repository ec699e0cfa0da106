// Package table: the index of a log: how its slots are filled, what bytes it
// has, and how a key is found by them.
package table

import (
	"ledge/record"
	"ledge/sums"
)

const (
	leastSlots = 4

	slotEmpty = 0
	slotTaken = 1
)

// slot is one slot; its kind is the byte that it begins with.
type slot struct {
	kind   byte
	number int
	place  record.Place
}

// slots is the table. There are always more of them than live keys, so that
// what is put in comes to an empty one.
type slots []slot

// Make tells the bytes of the index of a log that says this.
func Make(log string, said record.Said) string {
	places := said.Places()
	t := make(slots, sizeFor(len(places)))
	for _, p := range places {
		t.put(slot{kind: slotTaken, number: record.Number(said.Head, said.At(p).Key), place: p})
	}
	f := front{live: len(places), slots: len(t), far: t.farthest(), size: len(log), sum: sumOf(log)}
	return string(append(f.bytes(), t.bytes()...))
}

// sizeFor tells how many slots there are for so many live keys.
func sizeFor(live int) int {
	size := leastSlots
	for size <= 5*live/4 {
		size *= 2
	}
	return size
}

// away tells how far s stands, or would stand, from its home.
func (t slots) away(s slot, at int) int {
	return (at - s.number%len(t) + len(t)) % len(t)
}

// put puts s in: what is nearer to its own home gives way, and goes on.
func (t slots) put(s slot) {
	at := s.number % len(t)
	for t[at].kind != slotEmpty {
		if t.away(t[at], at) < t.away(s, at) {
			t[at], s = s, t[at]
		}
		at = (at + 1) % len(t)
	}
	t[at] = s
}

// farthest tells how far the farthest stands from its home.
func (t slots) farthest() int {
	far := 0
	for at, s := range t {
		if s.kind != slotEmpty {
			far = max(far, t.away(s, at))
		}
	}
	return far
}

// bytes tells all slots, and their check.
func (t slots) bytes() []byte {
	var b []byte
	for _, s := range t {
		b = append(b, s.kind)
		b = sums.AppendLow(b, s.number, 4)
		b = sums.AppendLow(b, s.place.Block, 4)
		b = sums.AppendLow(b, s.place.Entry, 1)
	}
	return sums.Seal(b)
}
