package ledge_test

import (
	"strconv"
	"strings"
	"testing"

	"ledge/api"
	"ledge/ledge"
)

// P3: the bytes of an index, of logs with no entries, with deletes, and with
// keys that are put again.
func TestP3Bytes(t *testing.T) {
	h := head(100, 7, 0)
	wantIndex(t, "no entries", h, index(h, 0, 0, empty, empty, empty, empty))
	if s, _ := ledge.Index(h); len(s) != 64 {
		t.Errorf("an index of no keys has %d bytes", len(s))
	}

	log := h + block(put("a", "x"))
	wantIndex(t, "one", log, index(log, 1, 0, slot(0, 14, 0), empty, empty, empty))

	log = h + block(put("a", ""), put("b", ""), put("c", ""))
	wantIndex(t, "three", log, index(log, 3, 2, slot(0, 14, 0), slot(0, 14, 1), slot(0, 14, 2), empty))

	log = h + block(put("a", "x"), del("a"))
	wantIndex(t, "taken away", log, index(log, 0, 0, empty, empty, empty, empty))

	log = h + block(del("a"), put("a", "x"), del("b"))
	wantIndex(t, "delete ahead of put, and of nothing", log, index(log, 1, 0, slot(0, 14, 1), empty, empty, empty))

	log = h + block(put("a", "x"), del("a"), del("a"), put("a", "y"))
	wantIndex(t, "put again behind a delete", log, index(log, 1, 0, slot(0, 14, 3), empty, empty, empty))

	one := block(put("a", "x"), put("b", "y"))
	log = h + one + block(put("a", "z"))
	wantIndex(t, "put again", log, index(log, 2, 1, slot(0, 14, 1), slot(0, 14+len(one), 0), empty, empty))

	log = h + one + one
	wantIndex(t, "a block twice", log, index(log, 2, 1, slot(0, 14+len(one), 0), slot(0, 14+len(one), 1), empty, empty))
}

// P3: a number has four bytes in its slot; the home is the number modulo the slots.
func TestP3Numbers(t *testing.T) {
	for _, seed := range []int{0, 7, topSeed} {
		n, _ := ledge.Number(seed, 32, "a")
		log := head(1, seed, 32) + block(put("a", "x"))
		slots := []string{empty, empty, empty, empty}
		slots[n%4] = slot(n, 14, 0)
		wantIndex(t, "one key", log, index(log, 1, 0, slots...))
	}
}

// homes: a log with a key for each of these homes, of eight slots, and its
// index, if the keys stand in the slots in this order (-1: an empty one).
func homes(t *testing.T, homes []int, far int, order []int) (log, want string) {
	t.Helper()
	log = head(100, 0, 3)
	taken := map[int]int{}
	var made []string
	for _, h := range homes {
		made = append(made, slot(h, len(log), 0))
		log += block(put(numbered(t, 0, 3, h, taken[h]), "v"))
		taken[h]++
	}
	var slots []string
	for _, o := range order {
		if o < 0 {
			slots = append(slots, empty)
			continue
		}
		slots = append(slots, made[o])
	}
	return log, index(log, len(homes), far, slots...)
}

// P3: what stands nearer to its home gives way, what stands as far does not;
// behind the last slot comes the first.
func TestP3Slots(t *testing.T) {
	for _, c := range []struct {
		what  string
		homes []int
		far   int
		order []int
	}{
		{"each at home", []int{0, 1, 2, 3}, 0, []int{0, 1, 2, 3, -1, -1, -1, -1}},
		{"each at home, falling", []int{3, 2, 1, 0}, 0, []int{3, 2, 1, 0, -1, -1, -1, -1}},
		{"one home", []int{0, 0, 0, 0}, 3, []int{0, 1, 2, 3, -1, -1, -1, -1}},
		{"one home at the end", []int{7, 7, 7, 7}, 3, []int{1, 2, 3, -1, -1, -1, -1, 0}},
		{"the nearer gives way", []int{0, 1, 0, 7}, 1, []int{0, 2, 1, -1, -1, -1, -1, 3}},
		{"the farther stays", []int{0, 0, 1, 5}, 1, []int{0, 1, 2, -1, -1, 3, -1, -1}},
		{"the one as far stays", []int{0, 0, 1, 0}, 2, []int{0, 1, 3, 2, -1, -1, -1, -1}},
		{"one behind the other", []int{0, 1, 2, 0}, 1, []int{0, 3, 1, 2, -1, -1, -1, -1}},
		{"round the end", []int{0, 7, 6, 6}, 1, []int{1, 0, -1, -1, -1, -1, 2, 3}},
		{"round the end and on", []int{7, 0, 7, 1, 7, 6}, 2, []int{2, 4, 1, 3, -1, -1, 5, 0}},
		{"round the end, again", []int{5, 6, 5, 5, 7}, 2, []int{1, 4, -1, -1, -1, 0, 2, 3}},
		{"all behind give way", []int{4, 5, 6, 4, 4, 4}, 3, []int{1, 2, -1, -1, 0, 3, 4, 5}},
		{"all behind come last", []int{4, 4, 4, 4, 5, 6}, 3, []int{4, 5, -1, -1, 0, 1, 2, 3}},
		{"not by order alone", []int{2, 3, 3, 2, 3, 2}, 4, []int{-1, -1, 0, 3, 5, 1, 4, 2}},
	} {
		log, want := homes(t, c.homes, c.far, c.order)
		wantIndex(t, c.what, log, want)
	}
}

// P3: the keys are put in by their places, not in the order in which they
// first came.
func TestP3PlacesRise(t *testing.T) {
	a, b := numbered(t, 0, 3, 5, 0), numbered(t, 0, 3, 5, 1)
	h := head(100, 0, 3)
	log := h + block(put(a, "x"), put(b, ""), put(a, "y"))
	empties := []string{empty, empty, empty, empty}
	empties[1], empties[2] = slot(5, 14, 1), slot(5, 14, 2)
	wantIndex(t, "put again behind the other", log, index(log, 2, 1, empties...))
}

// P3: the count of slots, at its edges.
func TestP3CountOfSlots(t *testing.T) {
	for _, c := range []struct{ live, slots int }{
		{0, 4}, {1, 4}, {3, 4}, {4, 8}, {6, 8}, {7, 16}, {12, 16}, {13, 32}, {25, 32}, {26, 64},
		{51, 64}, {52, 128}, {102, 128}, {103, 256}, {204, 256}, {205, 512}, {409, 512}, {410, 1024},
		{819, 1024}, {820, 2048}, {1638, 2048}, {1639, 4096}, {2000, 4096},
	} {
		log := many(head(100, 3, 32), 0, c.live, putEmpty)
		s, e := ledge.Index(log)
		if e != api.OK || len(s) != 24+10*c.slots || s[4:6] != two(c.slots) || s[2:4] != two(c.live) {
			t.Errorf("the index of %d keys has %d bytes, %d, want %d slots", c.live, len(s), e, c.slots)
		}
	}
}

// P3: at most 2000 keys are live, when all entries have gone.
func TestP3Live(t *testing.T) {
	h := head(100, 0, 32)
	full := many(h, 0, 2000, putEmpty)
	wantLog(t, "2000 live keys", full)
	wantLog(t, "2000 live keys, one put again", full+block(put("7", "")))
	wantNoLog(t, "2001 live keys", full+block(put("more", "")))
	wantLog(t, "2001 keys, one taken away", full+block(put("more", ""))+block(del("5")))
	wantLog(t, "2001 keys, the last taken away", full+block(put("more", ""), del("more")))
	wantNoLog(t, "2001 live keys, what is no key taken away", full+block(put("more", ""), del("none")))
	wantLog(t, "2000 live keys of one home", many(head(1, 0, 0), 0, 2000, putEmpty))
}

// P3: a log has at most 100000 bytes.
func TestP3Room(t *testing.T) {
	for _, c := range []struct {
		size int
		want api.Errno
	}{{99999, api.OK}, {100000, api.OK}, {100001, api.ErrForm}, {100030, api.ErrForm}, {200000, api.ErrForm}} {
		log := filled(c.size)
		if len(log) != c.size {
			t.Fatalf("the log has %d bytes, want %d", len(log), c.size)
		}
		if s, e := ledge.Index(log); e != c.want || (s == "") != (e != api.OK) {
			t.Errorf("a log of %d bytes: %d bytes, %d, want %d", c.size, len(s), e, c.want)
		}
	}
}

// P3: what is still a log, at the edges of its form.
func TestP3RightLogs(t *testing.T) {
	long := put(strings.Repeat("k", 20), strings.Repeat("v", 30))
	for what, log := range map[string]string{
		"Block 1":                          head(1, 0, 0),
		"Block 400":                        head(400, 0, 0),
		"Bits 32":                          head(1, 0, 32),
		"the greatest seed":                head(1, topSeed, 0),
		"one entry longer than Block":      head(1, 0, 0) + block(long),
		"two entries that are Block bytes": head(10, 0, 0) + block(put("a", "x"), put("b", "x")),
		"a hundred entries":                head(400, 0, 0) + block(strings.Split(strings.Repeat("d\x01\x00k,", 99)+"d\x01\x00k", ",")...),
		"bytes of all kinds":               head(400, 0, 0) + block(put("\x00", "\x00"), put("\xff", "\xff"), put("p", "d"), del("\x80")),
		"a delete of the longest key":      head(1, 0, 0) + block(del(strings.Repeat("k", 20))),
	} {
		wantLog(t, what, log)
	}
}

// P3: what is no log, by its head.
func TestP3WrongHeads(t *testing.T) {
	h, good := head(100, 7, 32), block(put("a", "x"))
	for i := range len(h) {
		wantNoLog(t, "a head cut behind "+strconv.Itoa(i), h[:i])
	}
	for what, log := range map[string]string{
		"other letters":      sealed("GL" + h[2:10]),
		"small letters":      sealed("lg" + h[2:10]),
		"an index's letters": sealed("IX" + h[2:10]),
		"other letters, a check of the right ones": "LH" + h[2:],
		"Block 0":               head(0, 7, 32),
		"Block 401":             head(401, 7, 32),
		"Block 65535":           head(65535, 7, 32),
		"Bits 33":               head(100, 7, 33),
		"Bits 256":              head(100, 7, 256),
		"Bits 65535":            head(100, 7, 65535),
		"no check":              h[:10],
		"a check of noughts":    h[:10] + four(0),
		"a check turned round":  h[:10] + string([]byte{h[13], h[12], h[11], h[10]}),
		"another seed":          h[:4] + four(8) + h[8:],
		"something ahead of it": "x" + h,
	} {
		wantNoLog(t, what, log)
		wantNoLog(t, what+", and a block", log+good)
	}
}

// P3: what is no log, by a block: alone, behind a right one, and ahead of one.
func TestP3WrongBlocks(t *testing.T) {
	h, good := head(10, 7, 32), block(put("a", "x"))
	wrong := map[string]string{
		"a nought":                        "\x00",
		"a block of no entries":           block(),
		"no entries, but bytes":           counted(0, put("a", "x")),
		"more entries than there are":     counted(2, put("a", "x")),
		"fewer entries than there are":    counted(1, put("a", "")+put("b", "")),
		"a length one too long":           sealed("\x01" + two(6) + put("a", "x")),
		"a length one too short":          sealed("\x01" + two(4) + put("a", "x")),
		"a length of noughts":             sealed("\x01" + two(0) + put("a", "x")),
		"the greatest length":             sealed("\x01" + two(65535) + put("a", "x")),
		"a length, highest byte first":    sealed("\x01\x00\x05" + put("a", "x")),
		"a byte behind the last entry":    block(put("a", "x") + "\x00"),
		"a put of no key":                 block(put("", "x")),
		"a delete of no key":              block(del("")),
		"a put of a key too long":         block(put(strings.Repeat("k", 21), "")),
		"a delete of a key too long":      block(del(strings.Repeat("k", 21))),
		"a value too long":                block(put("a", strings.Repeat("v", 31))),
		"a delete with a value":           block(entry("d", "a", "x")),
		"an entry cut in its front":       block("p\x01"),
		"an entry of one byte":            block("p"),
		"an entry cut in its key":         block("p\x02\x00a"),
		"an entry cut in its value":       block("p\x01\x02ax"),
		"a key of 255 bytes":              block("p\xff\x00a"),
		"the second entry wrong":          block(put("a", ""), entry("q", "b", "")),
		"the second entry cut":            block(put("a", ""), "p\x01"),
		"two entries longer than Block":   block(put("a", "x"), put("b", "xx")),
		"three entries longer than Block": block(del("a"), del("b"), del("c")),
		"no check":                        good[:len(good)-4],
		"a check of noughts":              good[:len(good)-4] + four(0),
		"a check of the entries alone":    good[:3] + sealed(good[3:len(good)-4]),
		"a check of another block":        good[:3] + put("a", "y") + good[len(good)-4:],
		"a head":                          h,
		"a right block with a byte more":  good + "\x01",
	}
	for what, b := range wrong {
		wantNoLog(t, what, h+b)
		wantNoLog(t, what+", behind a block", h+good+b)
		wantNoLog(t, what+", ahead of a block", h+b+good)
	}
	for i := 1; i < len(good); i++ {
		wantNoLog(t, "a block cut behind "+strconv.Itoa(i), h+good[:i])
		wantNoLog(t, "the second block cut behind "+strconv.Itoa(i), h+good+good[:i])
		wantNoLog(t, "a block without its first "+strconv.Itoa(i), h+good[i:])
	}
	for kind := range 256 {
		if kind == 'p' || kind == 'd' {
			continue
		}
		k := string([]byte{byte(kind)})
		wantNoLog(t, "an entry of the kind "+strconv.Itoa(kind), h+block(entry(k, "a", "")))
		wantNoLog(t, "the same with a value", h+block(entry(k, "a", "x")))
	}
	wide := head(400, 0, 0)
	wantNoLog(t, "101 entries", wide+counted(101, strings.Repeat(del("k"), 101)))
	wantNoLog(t, "255 entries", wide+counted(255, strings.Repeat(del("k"), 255)))
	wantNoLog(t, "256 entries", wide+counted(256, strings.Repeat(del("k"), 256)))
}
