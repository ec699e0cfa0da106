package record

import (
	"testing"

	"ledge/api"
)

// Whole ends at the first block that is not right, whatever is behind it.
func TestWhole(t *testing.T) {
	c := api.Config{Block: 8}
	w := NewWaiting(c)
	w.Add(del("a"))
	w.Add(del("b"))
	head, b := string(Head(c)), string(w.Block())
	for _, right := range []string{head, head + b, head + b + b} {
		for _, behind := range []string{"", "\x00", b[:1], b[:len(b)-1], b[:len(b)-1] + "x", b[1:], b[:len(b)-1] + b, "x" + b + b} {
			if whole := Whole(right+behind, c); whole != right {
				t.Errorf("Whole(%q) = %q, want %q", right+behind, whole, right)
			}
		}
	}
	if whole := Whole(head+b, api.Config{Block: 7}); whole != head {
		t.Errorf("a block of 8 bytes where 7 may be is whole: %q", whole)
	}
}
