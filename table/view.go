package table

import (
	"strings"

	"ledge/api"
	"ledge/record"
	"ledge/sums"
)

// View is a log and an index that belongs to it by its first bytes.
type View struct {
	log   string
	head  api.Config
	front front
	body  string // the slots' bytes
}

// Open opens a log by an index. The slots may still lie.
func Open(log, index string) (View, api.Errno) {
	f, body, ok := readFront(index)
	if !ok {
		return View{}, api.ErrForm
	}
	if !f.isOf(log) {
		return View{}, api.ErrOld
	}
	head, ok := record.ReadHead(log)
	if !ok {
		return View{}, api.ErrForm
	}
	return View{log: log, head: head, front: f, body: body}, api.OK
}

// Said tells what a log says, if the index is the log's to its last byte.
func Said(log, index string) (record.Said, api.Errno) {
	if _, e := Open(log, index); e != api.OK {
		return record.Said{}, e
	}
	said, ok := record.Read(log)
	if !ok || Make(log, said) != index {
		return record.Said{}, api.ErrForm
	}
	return said, api.OK
}

// Look tells a key's value, and how many slots were looked at.
func (v View) Look(key string) (string, int, api.Errno) {
	number := record.Number(v.head, key)
	most := v.front.far + 1
	for far := range most {
		s := v.slot(number + far)
		if s.kind == slotEmpty {
			return "", far + 1, api.ErrNone
		}
		if s.kind != slotTaken || s.number != number {
			continue
		}
		item, ok := record.ReadAt(v.log, v.head, s.place)
		if !ok {
			return "", 0, api.ErrForm
		}
		if item.Key == key {
			return strings.Clone(item.Value), far + 1, api.OK
		}
	}
	return "", most, api.ErrNone
}

// slot reads a slot; behind the last one comes the first.
func (v View) slot(at int) slot {
	from := at % v.front.slots * slotSize
	s := v.body[from : from+slotSize]
	return slot{
		kind:   s[0],
		number: sums.Low(s[1:5]),
		place:  record.Place{Block: sums.Low(s[5:9]), Entry: int(s[9])},
	}
}
