package ledge

import (
	"errors"

	"ledge/api"
	"ledge/disk"
	"ledge/record"
	"ledge/table"
)

const (
	fileLog   = "log"
	fileNew   = "new"
	fileIndex = "index"
)

// Store is a disk, and what is written on it.
type Store struct {
	disk    *disk.Disk
	waiting *record.Waiting // nil, if no log is open
}

// Disk makes a disk (P5).
func Disk(room int) (*Store, api.Errno) {
	if room < 0 || room > api.MaxRoom {
		return nil, api.ErrArg
	}
	return &Store{disk: disk.New(room)}, api.OK
}

// Create makes a log (P5).
func (s *Store) Create(c api.Config) api.Errno {
	if !record.IsConfig(c) {
		return api.ErrArg
	}
	there, err := s.disk.Has(fileLog)
	if err != nil {
		return answer(err)
	}
	if there {
		return api.ErrThere
	}
	return s.open(c, disk.Make(fileLog), disk.Append(fileLog, record.Head(c)), disk.Sync(fileLog))
}

// open takes the steps behind which a log whose head is c is open.
func (s *Store) open(c api.Config, steps ...disk.Step) api.Errno {
	if err := s.do(steps...); err != nil {
		return answer(err)
	}
	s.waiting = record.NewWaiting(c)
	return api.OK
}

// do takes steps. Where power fails no log is open any more, and what waited is
// lost.
func (s *Store) do(steps ...disk.Step) error {
	err := s.disk.Do(steps...)
	if errors.Is(err, disk.ErrPower) {
		s.waiting = nil
	}
	return err
}

// Put gives a key a value (P6).
func (s *Store) Put(key, value string) api.Errno {
	return s.add(record.Entry{Put: true, Item: api.Item{Key: key, Value: value}})
}

// Delete takes a key away (P6).
func (s *Store) Delete(key string) api.Errno {
	return s.add(record.Entry{Item: api.Item{Key: key}})
}

// add lets an entry wait.
func (s *Store) add(e record.Entry) api.Errno {
	if !e.IsRight() {
		return api.ErrArg
	}
	if no := s.refusal(); no != api.OK {
		return no
	}
	if !s.waiting.Takes(e) {
		if err := s.write(); err != nil {
			return answer(err)
		}
	}
	s.waiting.Add(e)
	return api.OK
}

// refusal tells why nothing can be written: a disk that is down comes ahead of
// a log that is not open.
func (s *Store) refusal() api.Errno {
	if _, err := s.disk.Has(fileLog); err != nil {
		return answer(err)
	}
	if s.waiting == nil {
		return api.ErrNone
	}
	return api.OK
}

// write appends what waits as a block. Without room for it, it waits on.
func (s *Store) write() error {
	if err := s.do(disk.Append(fileLog, s.waiting.Block())); err != nil {
		return err
	}
	s.waiting.Clear()
	return nil
}

// Flush writes what waits, and syncs (P6).
func (s *Store) Flush() api.Errno {
	if no := s.refusal(); no != api.OK {
		return no
	}
	if s.waiting.Any() {
		if err := s.write(); err != nil {
			return answer(err)
		}
	}
	return answer(s.do(disk.Sync(fileLog)))
}

// Build makes the index (P7).
func (s *Store) Build() api.Errno {
	log, err := s.disk.Read(fileLog)
	if err != nil {
		return answer(err)
	}
	index, e := Index(log)
	if e != api.OK {
		return e
	}
	return answer(s.do(
		disk.Make(fileNew),
		disk.Append(fileNew, []byte(index)),
		disk.Sync(fileNew),
		disk.Rename(fileNew, fileIndex),
	))
}

// Get looks for a key (P7).
func (s *Store) Get(key string) (string, api.Errno) {
	log, index, err := s.read()
	if err != nil {
		return "", answer(err)
	}
	value, _, e := Look(log, index, key)
	return value, e
}

// All tells all live items, until it is stopped (P7).
func (s *Store) All(stop *Stop) ([]api.Item, api.Errno) {
	log, index, err := s.read()
	if err != nil {
		return nil, answer(err)
	}
	said, e := table.Said(log, index)
	if e != api.OK {
		return nil, e
	}
	return liveItems(said, stop.wasCalled), api.OK
}

// liveItems tells what lives, by places rising, up to the first block ahead of
// which it is stopped.
func liveItems(said record.Said, stopped func() bool) []api.Item {
	var items []api.Item
	block := 0 // where the head is: no block begins there
	for _, p := range said.Places() {
		if p.Block != block && stopped() {
			return items
		}
		block = p.Block
		items = append(items, said.At(p))
	}
	return items
}

// read tells the log and the index.
func (s *Store) read() (log, index string, err error) {
	if log, err = s.disk.Read(fileLog); err != nil {
		return "", "", err
	}
	if index, err = s.disk.Read(fileIndex); err != nil {
		return "", "", err
	}
	return log, index, nil
}

// File tells a file's bytes (P8).
func (s *Store) File(name string) (string, api.Errno) {
	bytes, err := s.disk.Read(name)
	return bytes, answer(err)
}

// answer tells by which number a call answers what came up from the disk: all
// that fails there comes up as a fault.
func answer(err error) api.Errno {
	var fault *disk.Fault
	switch {
	case !errors.As(err, &fault):
		return api.OK
	case errors.Is(fault, disk.ErrRoom):
		return api.ErrRoom
	case errors.Is(fault, disk.ErrDown):
		return api.ErrDown
	case errors.Is(fault, disk.ErrPower):
		return api.ErrPower
	case errors.Is(fault, disk.ErrUp):
		return api.ErrArg
	}
	return api.ErrNone // the file is not there
}
