package table

import "ledge/sums"

const (
	frontMark = "IX"
	frontSize = 16 // bytes, and their check behind them
	slotSize  = 10
)

// front is what an index's first bytes say.
type front struct {
	live, slots, far int
	size, sum        int // of the log
}

// sumOf tells a log's sum.
func sumOf(log string) int { return int(uint32(sums.Hash(log))) }

// bytes tells the first bytes, and their check.
func (f front) bytes() []byte {
	b := []byte(frontMark)
	b = sums.AppendLow(b, f.live, 2)
	b = sums.AppendLow(b, f.slots, 2)
	b = sums.AppendLow(b, f.far, 2)
	b = sums.AppendLow(b, f.size, 4)
	b = sums.AppendLow(b, f.sum, 4)
	return sums.Seal(b)
}

// readFront reads an index's first bytes, and tells the slots that are behind
// them. The slots' check is only counted: a look does not read all slots.
func readFront(index string) (front, string, bool) {
	const behind = frontSize + sums.CheckSize
	if len(index) < behind || index[:2] != frontMark || !sums.Holds(index[:behind]) {
		return front{}, "", false
	}
	f := front{
		live:  sums.Low(index[2:4]),
		slots: sums.Low(index[4:6]),
		far:   sums.Low(index[6:8]),
		size:  sums.Low(index[8:12]),
		sum:   sums.Low(index[12:16]),
	}
	end := behind + f.slots*slotSize
	if f.slots == 0 || len(index) != end+sums.CheckSize {
		return front{}, "", false
	}
	return f, index[behind:end], true
}

// isOf tells whether the index was made of a log that had these bytes.
func (f front) isOf(log string) bool {
	return len(log) == f.size && sumOf(log) == f.sum
}
