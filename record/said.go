package record

import (
	"cmp"
	"maps"
	"slices"

	"ledge/api"
)

// Place is where an entry stands: the byte of the log at which its block
// begins, and its number in the block.
type Place struct {
	Block, Entry int
}

// Compare tells which of two places comes first.
func (p Place) Compare(q Place) int {
	return cmp.Or(cmp.Compare(p.Block, q.Block), cmp.Compare(p.Entry, q.Entry))
}

// Said is what a log says: its head, and the live items.
type Said struct {
	Head   api.Config
	items  map[Place]api.Item
	places map[string]Place
}

// Read reads a whole log, to its last byte.
func Read(log string) (Said, bool) {
	if len(log) > api.MaxRoom {
		return Said{}, false
	}
	head, ok := ReadHead(log)
	if !ok {
		return Said{}, false
	}
	s := Said{Head: head, items: map[Place]api.Item{}, places: map[string]Place{}}
	end := HeadSize
	for at, b := range blocks(log, head) {
		for i, e := range b.Entries {
			s.take(e, Place{Block: at, Entry: i})
		}
		end = at + b.Size
	}
	// Only the end counts: keys that were deleted again are not live.
	if end != len(log) || len(s.items) > api.MaxLive {
		return Said{}, false
	}
	return s, true
}

// take goes on by one entry.
func (s Said) take(e Entry, at Place) {
	key := e.Item.Key
	if old, ok := s.places[key]; ok {
		delete(s.items, old)
		delete(s.places, key)
	}
	if e.Put {
		s.items[at] = e.Item
		s.places[key] = at
	}
}

// Places tells where the live items stand, rising.
func (s Said) Places() []Place {
	return slices.SortedFunc(maps.Keys(s.items), Place.Compare)
}

// At tells the live item that stands at a place.
func (s Said) At(p Place) api.Item { return s.items[p] }

// ReadAt reads the item that is put at a place of a log whose head is c, by
// this one block: whether the item is live is not asked.
func ReadAt(log string, c api.Config, p Place) (api.Item, bool) {
	b, ok := ReadBlock(log, c, p.Block)
	if !ok || p.Entry >= len(b.Entries) || !b.Entries[p.Entry].Put {
		return api.Item{}, false
	}
	return b.Entries[p.Entry].Item, true
}
