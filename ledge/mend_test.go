package ledge_test

import (
	"strings"
	"testing"

	"ledge/api"
	"ledge/ledge"
)

// P8: Mend without a log changes nothing, whatever else is there.
func TestP8MendWithoutALog(t *testing.T) {
	for _, files := range []map[string]string{{}, {"index": ""}, {"new": "x", "index": "IX"}} {
		s := ledge.Laid(1000, files)
		wantAnswer(t, "Mend without a log", s.Mend(), api.ErrNone)
		wantFiles(t, s, files)
		wantNotOpen(t, s)
	}
}

// P8: a log that does not begin with a head: nothing is changed, none is open.
func TestP8MendOfNoHead(t *testing.T) {
	h, ix := head(4, 0, 0), indexOf(t, head(4, 0, 0))
	for _, log := range []string{
		"", "L", h[:13], "lg" + h[2:], h[:13] + "x", strings.Repeat("x", 50), block(put("a", "")), " " + h,
		head(0, 0, 0), head(401, 0, 0), head(4, 0, 33), h[1:] + block(put("a", "")),
	} {
		files := map[string]string{"log": log, "new": "x", "index": ix}
		s := ledge.Laid(1000, files)
		wantAnswer(t, "Mend of no head", s.Mend(), api.ErrForm)
		wantFiles(t, s, files)
		wantNotOpen(t, s)
	}
}

// P8: of a head that power has cut short, whichever it is, there is none; one
// that is whole is opened, as it says.
func TestP8MendBehindCreate(t *testing.T) {
	for keep := range 16 {
		s := newDisk(t, 1000)
		wantFail(t, s, 2, keep)
		wantAnswer(t, "Create", s.Create(api.Config{Block: 10, Seed: 7, Bits: 32}), api.ErrPower)
		wantAnswer(t, "Start", s.Start(), api.OK)
		h := head(10, 7, 32)
		wantFile(t, s, "log", h[:min(keep, 14)])
		wantAnswer(t, "Create where a log is", s.Create(api.Config{Block: 10}), api.ErrThere)
		if keep < 14 {
			wantAnswer(t, "Build of no head", s.Build(), api.ErrForm)
			wantAnswer(t, "Mend of no head", s.Mend(), api.ErrForm)
			wantNotOpen(t, s)
			continue
		}
		wantBuild(t, s)
		wantNotOpen(t, s)
		wantMend(t, s)
		wantFile(t, s, "index", indexOf(t, h))
		wantPut(t, s, "a", "x")
		wantPut(t, s, "b", "y")
		wantFile(t, s, "log", h) // ten bytes wait
		wantPut(t, s, "c", "")
		wantFile(t, s, "log", h+block(put("a", "x"), put("b", "y")))
	}
}

// behindBlocks: what may be behind a log's last whole block.
func behindBlocks() map[string]string {
	right := block(put("b", "y"))
	turned := []byte(right)
	turned[6] ^= 1
	return map[string]string{
		"a part of a block":                   right[:len(right)-1],
		"one byte of a block":                 right[:1],
		"one nought":                          "\x00",
		"noughts":                             strings.Repeat("\x00", 40),
		"other bytes":                         strings.Repeat("x", 40),
		"a block of no entries":               counted(0, ""),
		"a block that says too many":          counted(2, put("b", "y")),
		"a turned block":                      string(turned),
		"a right block behind a turned one":   string(turned) + right,
		"a right block behind a part":         right[:len(right)-1] + right,
		"a block that is longer than may be":  block(put("b", "y"), put("c", "0123456789ab")),
		"a block of an entry that is no such": block("x\x01\x00b"),
		"a head":                              head(20, 0, 0),
	}
}

// P8: whatever is behind the last whole block is cut, also where right blocks
// stand behind it; an index that is the log's then is left.
func TestP8MendCuts(t *testing.T) {
	for what, behind := range behindBlocks() {
		for _, whole := range []string{
			head(20, 0, 0),
			head(20, 0, 0) + block(put("a", "x")),
			head(20, 0, 0) + block(put("a", "x"), del("b")) + block(put("a", strings.Repeat("v", 30))),
		} {
			t.Run(what, func(t *testing.T) {
				ix := indexOf(t, whole)
				s := ledge.Laid(1000, map[string]string{"log": whole + behind, "new": "x", "index": ix})
				wantFail(t, s, 2, 0) // a cut and a sync
				wantMend(t, s)
				wantFiles(t, s, map[string]string{"log": whole, "new": "x", "index": ix})
				wantAnswer(t, "Flush", s.Flush(), api.ErrPower)
				wantAnswer(t, "Start", s.Start(), api.OK)
				wantFile(t, s, "log", whole)
				wantMend(t, s)
				wantPut(t, s, "c", "z")
				wantFlush(t, s)
				wantFile(t, s, "log", whole+block(put("c", "z")))
			})
		}
	}
}

// P8: an index that is the log's is left; one that is not is taken away, by a
// step of its own.
func TestP8MendAndTheIndex(t *testing.T) {
	h := head(20, 0, 32)
	log := h + block(put("a", "x"))
	other := h + block(put("a", "y"))
	mine := indexOf(t, log)
	lying := first(log, 1, 4, 0) + sealed(strings.Repeat(empty, 4))
	short := h + block(put("a", "x")) + block(del("a"))
	for what, c := range map[string]struct {
		index string
		stays bool
	}{
		"the log's":                     {mine, true},
		"another log's":                 {indexOf(t, other), false},
		"an old one":                    {indexOf(t, h), false},
		"one of more":                   {indexOf(t, short), false},
		"none":                          {"", false},
		"a part of the log's":           {mine[:len(mine)-1], false},
		"more than the log's":           {mine + "\x00", false},
		"one whose slots lie":           {lying, false},
		"one whose last check is wrong": {mine[:len(mine)-1] + "x", false},
	} {
		for _, behind := range []string{"", "x"} {
			t.Run(what, func(t *testing.T) {
				s := ledge.Laid(1000, map[string]string{"log": log + behind, "index": c.index})
				steps, left := 1+len(behind), map[string]string{"log": log}
				if c.stays {
					left["index"] = c.index
				} else {
					steps++
				}
				wantFail(t, s, steps, 0)
				wantMend(t, s)
				wantFiles(t, s, left)
				wantAnswer(t, "Flush", s.Flush(), api.ErrPower)
			})
		}
	}
}

// P8: more live keys than a log may have to be built: it is mended all the
// same, but no index is its.
func TestP8MendOfTooMany(t *testing.T) {
	log := many(head(400, 0, 0), 0, api.MaxLive, putEmpty)
	ix, _ := ledge.Index(log)
	s := ledge.Laid(api.MaxRoom, map[string]string{"log": log, "index": ix})
	wantMend(t, s)
	wantFile(t, s, "index", ix)

	more := log + block(put("one more", ""))
	s = ledge.Laid(api.MaxRoom, map[string]string{"log": more + "x", "index": ix})
	wantMend(t, s)
	wantFiles(t, s, map[string]string{"log": more})
	wantAnswer(t, "Build of too many", s.Build(), api.ErrForm)
	wantDelete(t, s, "7")
	wantFlush(t, s)
	wantBuild(t, s)
	wantGet(t, s, "one more", "", api.OK)
}

// P8: Mend of a log that is open: what waits is lost, what was written is
// synced; it may be mended as often as one likes.
func TestP8MendOfAnOpenLog(t *testing.T) {
	s := created(t, 1000, api.Config{Block: 5, Bits: 32})
	log := head(5, 0, 32) + block(put("a", "1"))
	wantPut(t, s, "a", "1")
	wantPut(t, s, "b", "2") // a is written, not synced
	wantBuild(t, s)
	for range 3 {
		wantMend(t, s)
		wantFiles(t, s, map[string]string{"log": log, "index": indexOf(t, log)})
		wantGet(t, s, "a", "1", api.OK)
		wantGet(t, s, "b", "", api.ErrNone)
	}
	wantFlush(t, s)
	wantFile(t, s, "log", log)
	wantPut(t, s, "c", "3")
	wantMend(t, s)
	wantSynced(t, s, "log", log)
	wantFile(t, s, "index", indexOf(t, log))
}

// P8: what the calls answer behind a Mend that has lost a block.
func TestP8BehindMend(t *testing.T) {
	s := created(t, 1000, api.Config{Block: 5, Seed: 3, Bits: 32})
	log := head(5, 3, 32) + block(put("a", "1"))
	wantPut(t, s, "a", "1")
	wantFlush(t, s)
	wantPut(t, s, "a", "2")
	wantDelete(t, s, "b")
	wantBuild(t, s)
	wantGet(t, s, "a", "2", api.OK)
	lost(t, s, 11)
	wantGet(t, s, "a", "", api.ErrOld)
	wantNoAll(t, "an old index", s, nil, api.ErrOld)
	wantAnswer(t, "Build of a part of a block", s.Build(), api.ErrForm)
	wantNotOpen(t, s)
	wantMend(t, s)
	wantGet(t, s, "a", "", api.ErrNone)
	wantNoAll(t, "no index", s, nil, api.ErrNone)
	wantFiles(t, s, map[string]string{"log": log})
	wantAnswer(t, "Create where a log is", s.Create(api.Config{Block: 5}), api.ErrThere)
	wantBuild(t, s)
	wantGet(t, s, "a", "1", api.OK)
	wantAll(t, "built", s, nil, api.Item{Key: "a", Value: "1"})
	wantPut(t, s, "b", "3")
	wantPut(t, s, "c", "4") // b is written
	wantFile(t, s, "log", log+block(put("b", "3")))
	wantDelete(t, s, "a")
	wantFlush(t, s)
	wantFile(t, s, "log", log+block(put("b", "3"))+block(put("c", "4"))+block(del("a")))
	wantGet(t, s, "a", "", api.ErrOld)
	wantBuild(t, s)
	wantAll(t, "built again", s, nil, api.Item{Key: "b", Value: "3"}, api.Item{Key: "c", Value: "4"})
}

// P7: files that no calls lay: All refuses an index that is not the log's, Get
// does not ask that.
func TestP7AnIndexThatLies(t *testing.T) {
	log := head(20, 0, 0) + block(put("a", "x"))
	s := ledge.Laid(1000, map[string]string{"log": log, "index": index(log, 1, 0, slot(0, 14, 0))})
	wantNoAll(t, "an index of one slot", s, nil, api.ErrForm)
	wantGet(t, s, "a", "x", api.OK)
	s = ledge.Laid(1000, map[string]string{"log": log, "index": "IX"})
	wantNoAll(t, "no index", s, calledStop(1), api.ErrForm)
	wantGet(t, s, "a", "", api.ErrForm)
	broken := log[:len(log)-1]
	s = ledge.Laid(1000, map[string]string{"log": broken, "index": index(broken, 1, 0, slot(0, 14, 0))})
	wantNoAll(t, "a log that is none", s, nil, api.ErrForm)
	wantGet(t, s, "a", "", api.ErrForm)
	wantAnswer(t, "Build", s.Build(), api.ErrForm)
	s = ledge.Laid(1000, map[string]string{"index": index(log, 1, 0, slot(0, 14, 0))})
	wantNoAll(t, "no log", s, nil, api.ErrNone)
	wantGet(t, s, "a", "", api.ErrNone)
}
