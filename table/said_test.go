package table

import (
	"testing"

	"ledge/api"
	"ledge/record"
	"ledge/sums"
)

// twoKeys: a log with two live keys, and its index.
func twoKeys(t *testing.T) (log, index string) {
	t.Helper()
	c := api.Config{Block: 100}
	w := record.NewWaiting(c)
	w.Add(record.Entry{Put: true, Item: api.Item{Key: "a", Value: "x"}})
	w.Add(record.Entry{Put: true, Item: api.Item{Key: "b", Value: "y"}})
	log = string(append(record.Head(c), w.Block()...))
	said, ok := record.Read(log)
	if !ok {
		t.Fatal("no log")
	}
	return log, Make(log, said)
}

func wantSaid(t *testing.T, what, log, index string, want api.Errno) {
	t.Helper()
	said, e := Said(log, index)
	if e != want || e != api.OK && len(said.Places()) != 0 {
		t.Errorf("%s: Said = %v, %d, want %d", what, said.Places(), e, want)
	}
}

// An index whose first bytes are the log's, but whose slots are not: the calls
// on a disk make none, but All must refuse it.
func TestSaidByAnotherIndex(t *testing.T) {
	log, index := twoKeys(t)
	wantSaid(t, "the log's", log, index, api.OK)
	if said, _ := Said(log, index); len(said.Places()) != 2 {
		t.Errorf("Said = %v", said.Places())
	}
	for at := range len(index) {
		b := []byte(index)
		b[at] ^= 1
		wantSaid(t, "a bit turned", log, string(b), api.ErrForm)
	}
	slots := []byte(index[20 : len(index)-sums.CheckSize])
	slots[9], slots[19] = slots[19], slots[9]
	wantSaid(t, "slots changed, and sealed anew", log, index[:20]+string(sums.Seal(slots)), api.ErrForm)
}

// The order of the errors is that of a look.
func TestSaidErrors(t *testing.T) {
	log, index := twoKeys(t)
	wantSaid(t, "no index", log, "", api.ErrForm)
	wantSaid(t, "an index that is too long", log, index+"\x00", api.ErrForm)
	wantSaid(t, "another log", log+"\x00", index, api.ErrOld)
	wantSaid(t, "no log", "", index, api.ErrOld)

	front := func(log string) string {
		f := front{slots: 4, size: len(log), sum: sumOf(log)}
		return string(append(f.bytes(), make(slots, 4).bytes()...))
	}
	wantSaid(t, "no head", "none", front("none"), api.ErrForm)
	broken := log[:len(log)-1]
	wantSaid(t, "a log that is none behind its head", broken, front(broken), api.ErrForm)
	wantSaid(t, "an index of fewer keys", log, front(log), api.ErrForm)
}
