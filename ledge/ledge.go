// Package ledge: written once, found by one look: see DOC.md.
package ledge

import (
	"ledge/api"
	"ledge/record"
	"ledge/table"
)

// Number tells a key's number (P2).
func Number(seed, bits int, key string) (int, api.Errno) {
	if !record.IsSeed(seed) || !record.IsBits(bits) || !record.IsKey(key) {
		return 0, api.ErrArg
	}
	return record.Number(api.Config{Seed: seed, Bits: bits}, key), api.OK
}

// Index tells the index of a log (P3).
func Index(log string) (string, api.Errno) {
	said, ok := record.Read(log)
	if !ok {
		return "", api.ErrForm
	}
	return table.Make(log, said), api.OK
}

// Look looks for a key (P4).
func Look(log, index, key string) (string, int, api.Errno) {
	view, e := table.Open(log, index)
	if e != api.OK {
		return "", 0, e
	}
	return view.Look(key)
}
