package ledge_test

import (
	"testing"

	"ledge/api"
	"ledge/ledge"
)

// What the tests of the calls on a disk have in common.

func newDisk(t *testing.T, room int) *ledge.Store {
	t.Helper()
	s, e := ledge.Disk(room)
	if s == nil || e != api.OK {
		t.Fatalf("Disk(%d) = %v, %d", room, s, e)
	}
	return s
}

// created: a disk of this room, with a log.
func created(t *testing.T, room int, c api.Config) *ledge.Store {
	t.Helper()
	s := newDisk(t, room)
	wantAnswer(t, "Create", s.Create(c), api.OK)
	return s
}

func wantAnswer(t *testing.T, what string, e, want api.Errno) {
	t.Helper()
	if e != want {
		t.Errorf("%s = %d, want %d", what, e, want)
	}
}

func wantPut(t *testing.T, s *ledge.Store, key, value string) {
	t.Helper()
	wantAnswer(t, "Put of "+key, s.Put(key, value), api.OK)
}

func wantDelete(t *testing.T, s *ledge.Store, key string) {
	t.Helper()
	wantAnswer(t, "Delete of "+key, s.Delete(key), api.OK)
}

func wantFlush(t *testing.T, s *ledge.Store) {
	t.Helper()
	wantAnswer(t, "Flush", s.Flush(), api.OK)
}

func wantBuild(t *testing.T, s *ledge.Store) {
	t.Helper()
	wantAnswer(t, "Build", s.Build(), api.OK)
}

func wantFile(t *testing.T, s *ledge.Store, name, want string) {
	t.Helper()
	if b, e := s.File(name); b != want || e != api.OK {
		t.Errorf("File(%q) = %q, %d, want %q", name, b, e, want)
	}
}

func wantNoFile(t *testing.T, s *ledge.Store, names ...string) {
	t.Helper()
	for _, name := range names {
		if b, e := s.File(name); b != "" || e != api.ErrNone {
			t.Errorf("File(%q) = %q, %d, want ErrNone", name, b, e)
		}
	}
}

func wantGet(t *testing.T, s *ledge.Store, key, value string, want api.Errno) {
	t.Helper()
	if v, e := s.Get(key); v != value || e != want {
		t.Errorf("Get(%q) = %q, %d, want %q, %d", key, v, e, value, want)
	}
}

// wantSynced: what is left of a file, if power fails and nothing is kept that
// was not synced. No log is open behind that.
func wantSynced(t *testing.T, s *ledge.Store, name, want string) {
	t.Helper()
	lost(t, s, 0)
	wantFile(t, s, name, want)
}
