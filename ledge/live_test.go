package ledge

import (
	"slices"
	"testing"

	"ledge/api"
	"ledge/record"
)

// threeBlocks: what a log of three blocks says, each with two live items.
func threeBlocks(t *testing.T) (record.Said, []api.Item) {
	t.Helper()
	c := api.Config{Block: 400}
	w, log := record.NewWaiting(c), record.Head(c)
	var items []api.Item
	for _, key := range []string{"f", "e", "d", "c", "b", "a"} {
		item := api.Item{Key: key, Value: key + key}
		items = append(items, item)
		w.Add(record.Entry{Put: true, Item: item})
		if len(items)%2 == 0 {
			log = append(log, w.Block()...)
			w.Clear()
		}
	}
	said, ok := record.Read(string(log))
	if !ok {
		t.Fatal("no log")
	}
	return said, items
}

// P7: it is asked ahead of each block whether All goes on; what was told by
// then stays.
func TestP7AskedAheadOfEachBlock(t *testing.T) {
	said, items := threeBlocks(t)
	for until, want := range []int{0, 2, 4, 6} {
		asked := 0
		l := liveItems(said, func() bool {
			asked++
			return asked > until
		})
		if !slices.Equal(l, items[:want]) || asked != min(until+1, 3) {
			t.Errorf("stopped behind %d blocks: %v, asked %d times", until, l, asked)
		}
	}
}
