package disk

import (
	"errors"
	"strings"
	"testing"
)

func wantBytes(t *testing.T, d *Disk, name, want string, synced int) {
	t.Helper()
	b, err := d.Read(name)
	if b != want || err != nil || !has(t, d, name) || d.files[name].synced != synced {
		t.Errorf("Read(%q) = %q, %v, want %q, of which %d are synced", name, b, err, want, synced)
	}
}

func has(t *testing.T, d *Disk, name string) bool {
	t.Helper()
	there, err := d.Has(name)
	if err != nil {
		t.Errorf("Has(%q) = %v", name, err)
	}
	return there
}

func wantDone(t *testing.T, d *Disk, steps ...Step) {
	t.Helper()
	if err := d.Do(steps...); err != nil {
		t.Errorf("Do = %v", err)
	}
}

// wantFault: the error is asked as a call asks it, and tells step and file.
func wantFault(t *testing.T, err error, step, file string, cause error) {
	t.Helper()
	var f *Fault
	if !errors.As(err, &f) || f.Step != step || f.File != file || !errors.Is(err, cause) {
		t.Errorf("the error is %v, want one of %s %s: %v", err, step, file, cause)
		return
	}
	if want := strings.TrimSpace(step+" "+file) + ": " + cause.Error(); err.Error() != want {
		t.Errorf("the error tells %q, want %q", err.Error(), want)
	}
}

func TestSteps(t *testing.T) {
	d := New(10)
	if has(t, d, "a") {
		t.Error("a new disk has a file")
	}
	wantDone(t, d, Make("a"))
	wantBytes(t, d, "a", "", 0)
	wantDone(t, d, Append("a", []byte("12")), Append("a", []byte("345")))
	wantBytes(t, d, "a", "12345", 0)
	wantDone(t, d, Sync("a"), Append("a", []byte("6")))
	wantBytes(t, d, "a", "123456", 5)
	wantDone(t, d, Make("b"), Append("b", []byte("x")), Rename("a", "b"))
	wantBytes(t, d, "b", "123456", 5)
	if has(t, d, "a") {
		t.Error("a file that was renamed has its old name")
	}
	wantDone(t, d, Cut("b", 6))
	wantBytes(t, d, "b", "123456", 5)
	wantDone(t, d, Cut("b", 7))
	wantBytes(t, d, "b", "123456", 5)
	wantDone(t, d, Append("b", []byte("789")), Cut("b", 7))
	wantBytes(t, d, "b", "1234567", 5)
	wantDone(t, d, Cut("b", 2), Append("b", []byte("x")))
	wantBytes(t, d, "b", "12x", 2)
	wantDone(t, d, Cut("b", 0))
	wantBytes(t, d, "b", "", 0)
	wantDone(t, d, Append("b", []byte("1")), Make("b"))
	wantBytes(t, d, "b", "", 0)
	wantDone(t, d, Make("a"), Remove("b"))
	if has(t, d, "b") || !has(t, d, "a") {
		t.Error("a file was not taken away, or another one was")
	}
}

// The room is that of all files; what is lost gives its room back.
func TestRoom(t *testing.T) {
	d := New(10)
	wantDone(t, d, Make("a"), Make("b"), Append("a", []byte("1234")), Append("b", []byte("56789")))
	wantFault(t, d.Do(Append("a", []byte("xy"))), "append", "a", ErrRoom)
	wantBytes(t, d, "a", "1234", 0)
	wantDone(t, d, Append("a", []byte("x")), Append("b", nil))
	wantFault(t, d.Do(Append("b", []byte("y"))), "append", "b", ErrRoom)
	wantDone(t, d, Make("b"), Append("b", []byte("56789")))
	wantDone(t, d, Rename("a", "b"), Append("b", []byte("abcde")))
	wantBytes(t, d, "b", "1234xabcde", 0)
	wantDone(t, d, Cut("b", 4), Make("a"), Append("a", []byte("abcdef")))
	wantFault(t, d.Do(Append("b", []byte("5"))), "append", "b", ErrRoom)
	wantDone(t, d, Remove("a"), Append("b", []byte("567890")))
	wantBytes(t, d, "b", "1234567890", 0)

	none := New(0)
	wantDone(t, none, Make("a"), Append("a", nil), Sync("a"))
	wantFault(t, none.Do(Append("a", []byte("1"))), "append", "a", ErrRoom)
}

// Do ends at the first step that fails: those ahead of it were taken, those
// behind it were not.
func TestDoEndsAtAFault(t *testing.T) {
	d := New(3)
	err := d.Do(Make("a"), Append("a", []byte("123")), Append("a", []byte("4")), Sync("a"), Rename("a", "b"))
	wantFault(t, err, "append", "a", ErrRoom)
	wantBytes(t, d, "a", "123", 0)
	if has(t, d, "b") {
		t.Error("a step behind the fault was taken")
	}
}

func TestNoFile(t *testing.T) {
	d := New(10)
	wantDone(t, d, Make("other"))
	_, err := d.Read("a")
	wantFault(t, err, "read", "a", ErrNoFile)
	wantFault(t, d.Do(Append("a", nil)), "append", "a", ErrNoFile)
	wantFault(t, d.Do(Sync("a")), "sync", "a", ErrNoFile)
	wantFault(t, d.Do(Rename("a", "other")), "rename", "a", ErrNoFile)
	wantFault(t, d.Do(Cut("a", 0)), "cut", "a", ErrNoFile)
	wantFault(t, d.Do(Remove("a")), "remove", "a", ErrNoFile)
	if has(t, d, "a") || !has(t, d, "other") {
		t.Error("a step on no file changed something")
	}
}

// What is handed in and what comes out is not the disk's own memory.
func TestMemory(t *testing.T) {
	d := New(10)
	mine := []byte("123")
	wantDone(t, d, Make("a"), Append("a", mine))
	mine[0] = 'x'
	before, _ := d.Read("a")
	wantDone(t, d, Append("a", []byte("4")))
	if before != "123" {
		t.Errorf("what was read is %q by now", before)
	}
	wantBytes(t, d, "a", "1234", 0)
}
