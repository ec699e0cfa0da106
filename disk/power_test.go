package disk

import (
	"math"
	"testing"
)

// half: a disk whose files have 4 bytes each, of which none, 2 and all are
// synced.
func half(t *testing.T) *Disk {
	t.Helper()
	d := New(20)
	wantDone(t, d,
		Make("none"), Append("none", []byte("abcd")),
		Make("two"), Append("two", []byte("ab")), Sync("two"), Append("two", []byte("cd")),
		Make("all"), Append("all", []byte("abcd")), Sync("all"))
	return d
}

func wantPower(t *testing.T, what string, err error) {
	t.Helper()
	if err != nil {
		t.Errorf("%s = %v", what, err)
	}
}

// What is synced is left, and of the rest as many bytes as are kept; all of it
// is synced then.
func TestLost(t *testing.T) {
	for _, c := range []struct {
		keep      int
		none, two string
	}{
		{0, "", "ab"}, {1, "a", "abc"}, {2, "ab", "abcd"}, {3, "abc", "abcd"}, {4, "abcd", "abcd"},
		{5, "abcd", "abcd"}, {math.MaxInt, "abcd", "abcd"},
	} {
		d := half(t)
		wantPower(t, "Fail", d.Fail(0, c.keep))
		wantPower(t, "Start", d.Start())
		for range 2 {
			wantBytes(t, d, "none", c.none, len(c.none))
			wantBytes(t, d, "two", c.two, len(c.two))
			wantBytes(t, d, "all", "abcd", 4)
			wantPower(t, "Fail", d.Fail(0, 0))
			wantPower(t, "Start", d.Start())
		}
	}
}

// Power fails in place of a step behind so many, of whichever kind; those ahead
// of it were taken, it and those behind it were not.
func TestInPlaceOfAStep(t *testing.T) {
	steps := []Step{
		Sync("none"), Append("two", []byte("e")), Append("all", make([]byte, 21)), Cut("all", 1),
		Make("two"), Rename("none", "two"), Remove("all"),
	}
	for i, s := range steps[1:] {
		d := half(t)
		wantPower(t, "Fail", d.Fail(1, 0))
		wantFault(t, d.Do(steps[0], s, Remove("none")), s.name, s.file, ErrPower)
		wantFault(t, d.Do(s), s.name, s.file, ErrDown)
		wantPower(t, "Start", d.Start())
		wantBytes(t, d, "none", "abcd", 4) // the sync ahead of it was taken
		wantBytes(t, d, "two", "ab", 2)
		wantBytes(t, d, "all", "abcd", 4)
		if err := d.Do(s); (err != nil) != (i == 1) { // only there is no room
			t.Errorf("%s behind a start: %v", s.name, err)
		}
	}
}

// An append that finds no room is counted, and so is each step by itself, over
// several Do.
func TestCounted(t *testing.T) {
	d := half(t)
	wantPower(t, "Fail", d.Fail(3, 0))
	wantDone(t, d, Sync("two"))
	wantFault(t, d.Do(Append("two", make([]byte, 21)), Sync("none")), "append", "two", ErrRoom)
	if !has(t, d, "none") { // what is only asked is not counted
		t.Error("a file is gone")
	}
	wantDone(t, d)
	wantDone(t, d, Append("two", nil))
	wantFault(t, d.Do(Append("two", make([]byte, 21))), "append", "two", ErrPower)
	wantPower(t, "Start", d.Start())
	wantBytes(t, d, "none", "", 0)
	wantBytes(t, d, "two", "abcd", 4)
	wantDone(t, d, Sync("two"), Sync("two"), Sync("two"), Sync("two")) // it has failed, and does not fail again
}

// A failure that was to come is replaced: by a later one, by a sooner one, by
// one that keeps another number, by one at once.
func TestReplaced(t *testing.T) {
	d := half(t)
	wantPower(t, "Fail", d.Fail(1, 9))
	wantPower(t, "Fail", d.Fail(2, 1))
	wantDone(t, d, Sync("two"), Sync("two"))
	wantFault(t, d.Do(Sync("none")), "sync", "none", ErrPower)
	wantPower(t, "Start", d.Start())
	wantBytes(t, d, "none", "a", 1)

	d = half(t)
	wantPower(t, "Fail", d.Fail(9, 1))
	wantPower(t, "Fail", d.Fail(1, 2))
	wantDone(t, d, Sync("two"))
	wantFault(t, d.Do(Sync("none")), "sync", "none", ErrPower)
	wantPower(t, "Start", d.Start())
	wantBytes(t, d, "none", "ab", 2)

	d = half(t)
	wantPower(t, "Fail", d.Fail(1, 1))
	wantPower(t, "Fail", d.Fail(0, 3))
	wantPower(t, "Start", d.Start())
	wantBytes(t, d, "none", "abc", 3)
	wantDone(t, d, Sync("two"), Sync("two"), Sync("two"))
}

// What a disk that is down answers, and one that is up.
func TestDown(t *testing.T) {
	d := half(t)
	wantFault(t, d.Start(), "start", "", ErrUp)
	wantPower(t, "Fail", d.Fail(0, 0))
	for _, name := range []string{"all", "other"} {
		_, err := d.Has(name)
		wantFault(t, err, "find", name, ErrDown)
		_, err = d.Read(name)
		wantFault(t, err, "read", name, ErrDown)
		wantFault(t, d.Do(Make(name)), "make", name, ErrDown)
		wantFault(t, d.Do(Sync(name)), "sync", name, ErrDown)
	}
	wantFault(t, d.Fail(0, 0), "fail", "", ErrDown)
	wantFault(t, d.Fail(1, 0), "fail", "", ErrDown)
	wantPower(t, "Start", d.Start())
	wantFault(t, d.Start(), "start", "", ErrUp)
	wantBytes(t, d, "all", "abcd", 4)
	wantDone(t, d, Make("other"), Sync("other"), Sync("other"))
}
