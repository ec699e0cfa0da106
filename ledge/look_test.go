package ledge_test

import (
	"strconv"
	"strings"
	"testing"

	"ledge/api"
	"ledge/ledge"
)

// three: a log of three keys whose home is 0, where its second block begins,
// and its slots.
func three() (log string, second int, slots []string) {
	log = head(100, 7, 0) + block(put("a", "x"), put("b", ""), del("z"))
	second = len(log)
	log += block(put("c", "zz"))
	return log, second, []string{slot(0, 14, 0), slot(0, 14, 1), slot(0, second, 0), empty}
}

// P4: values, keys that are not there, and how many slots were looked at.
func TestP4Looks(t *testing.T) {
	log, second, slots := three()
	good := index(log, 3, 2, slots...)
	wantLook(t, "the first", log, good, "a", "x", 1, api.OK)
	wantLook(t, "an empty value", log, good, "b", "", 2, api.OK)
	wantLook(t, "the last", log, good, "c", "zz", 3, api.OK)
	wantLook(t, "not put", log, good, "d", "", 3, api.ErrNone)
	wantLook(t, "deleted", log, good, "z", "", 3, api.ErrNone)
	wantLook(t, "an empty slot", log, index(log, 3, 3, slots...), "d", "", 4, api.ErrNone)
	wantLook(t, "an empty slot, ahead of the farthest", log, index(log, 3, 9, slots...), "d", "", 4, api.ErrNone)
	wantLook(t, "farther than the farthest", log, index(log, 3, 1, slots...), "c", "", 2, api.ErrNone)
	wantLook(t, "one slot only", log, index(log, 3, 0, slots...), "a", "x", 1, api.OK)
	wantLook(t, "not in one slot", log, index(log, 3, 0, slots...), "b", "", 1, api.ErrNone)
	wantLook(t, "the first empty", log, index(log, 3, 2, empty, slots[0]), "a", "", 1, api.ErrNone)
	wantLook(t, "round and round", log, index(log, 3, 65535, slots[:3]...), "d", "", 65536, api.ErrNone)
	wantLook(t, "one slot, ten times", log, index(log, 1, 9, slot(0, second, 0)), "a", "", 10, api.ErrNone)
}

// P4: every key of an index is found, in no more slots than the farthest
// stands away, and one; what was deleted last is not.
func TestP4EveryKey(t *testing.T) {
	for _, bits := range []int{0, 1, 3, 8, 32} {
		log := many(head(100, 9, bits), 0, 90, func(k string) string { return put(k, "v"+k) })
		log += many("", 0, 30, del) + many("", 10, 10, func(k string) string { return put(k, "w"+k) })
		ix, e := ledge.Index(log)
		if e != api.OK {
			t.Fatalf("Bits %d: Index = %d", bits, e)
		}
		most := int(ix[6]) + int(ix[7])<<8 + 1
		farthest := 0
		for i := range 100 {
			key, want, wantE := strconv.Itoa(i), "", api.ErrNone
			if i >= 30 && i < 90 {
				want, wantE = "v"+key, api.OK
			} else if i >= 10 && i < 20 {
				want, wantE = "w"+key, api.OK
			}
			s, n, e := ledge.Look(log, ix, key)
			if s != want || e != wantE || n < 1 || n > most {
				t.Errorf("Bits %d: Look of %s = %q, %d of %d, %d, want %q, %d", bits, key, s, n, most, e, want, wantE)
			}
			if e == api.OK {
				farthest = max(farthest, n)
			}
		}
		if farthest != most {
			t.Errorf("Bits %d: the farthest took %d slots, the index says %d", bits, farthest, most)
		}
	}
}

// P4: the home is the key's number modulo the slots, however many there are,
// and behind the last one comes the first.
func TestP4Homes(t *testing.T) {
	h := head(100, 5, 32)
	for _, count := range []int{1, 2, 3, 5, 6, 7, 100} {
		for _, key := range []string{"a", "b", "c", "d", "e"} {
			n, _ := ledge.Number(5, 32, key)
			log := h + block(put(key, "v"))
			for away := range min(count, 4) {
				slots := make([]string, count)
				for i := range slots {
					slots[i] = slot(n^1, 14, 0)
				}
				slots[(n+away)%count] = slot(n, 14, 0)
				wantLook(t, strconv.Itoa(count)+" slots", log, index(log, 1, 4, slots...), key, "v", away+1, api.OK)
			}
		}
	}
}

// P4: keys with one number are told apart by their entries; another number's
// block is not read.
func TestP4Numbers(t *testing.T) {
	a, b, c := numbered(t, 0, 4, 3, 0), numbered(t, 0, 4, 3, 1), numbered(t, 0, 4, 4, 0)
	log := head(100, 0, 4) + block(put(a, "1"), put(b, "2"), put(c, "3"))
	wantLook(t, "one number", log, index(log, 3, 1, slot(3, 14, 0), slot(3, 14, 1)), b, "2", 1, api.OK)
	wantLook(t, "one number, the other first", log, index(log, 3, 1, slot(3, 14, 1), slot(3, 14, 0)), b, "2", 2, api.OK)
	wantLook(t, "another number", log, index(log, 3, 1, slot(4, 14, 1), slot(4, 14, 1)), b, "", 2, api.ErrNone)
	for _, n := range []int{4, 3 + 16, 3 + 1<<8, 3 + 1<<16, 3 + 1<<31} {
		wantLook(t, "another number, and no block", log, index(log, 3, 0, slot(n, 0, 0)), b, "", 1, api.ErrNone)
	}
	wantLook(t, "another key's place", log, index(log, 3, 0, slot(3, 14, 2)), b, "", 1, api.ErrNone)
}

// P4: the kinds of slots: 0 is empty, 1 is taken, others are passed.
func TestP4Kinds(t *testing.T) {
	log, _, slots := three()
	for kind := 2; kind < 256; kind++ {
		other := string([]byte{byte(kind)}) + slots[0][1:]
		wantLook(t, "kind "+strconv.Itoa(kind), log, index(log, 3, 2, other, slots[0], empty), "a", "x", 2, api.OK)
		lost := string([]byte{byte(kind)}) + four(0) + four(0) + "\x00"
		wantLook(t, "kind "+strconv.Itoa(kind), log, index(log, 3, 2, lost, lost), "a", "", 3, api.ErrNone)
	}
	wantLook(t, "kind 0 with a place", log, index(log, 3, 2, "\x00"+slots[0][1:], slots[0]), "a", "", 1, api.ErrNone)
}

// P4: an index whose first bytes are wrong, or that is too short or too long.
func TestP4WrongIndexes(t *testing.T) {
	log, _, slots := three()
	good := index(log, 3, 2, slots...)
	for i := range len(good) {
		wantLook(t, "cut behind "+strconv.Itoa(i), log, good[:i], "a", "", 0, api.ErrForm)
	}
	body := good[20:]
	for what, ix := range map[string]string{
		"a byte more":             good + "\x00",
		"a slot more":             good + empty,
		"other letters":           sealed("XI"+good[2:16]) + body,
		"a log's letters":         sealed("LG"+good[2:16]) + body,
		"a wrong check":           good[:16] + four(0) + body,
		"another count of live":   good[:2] + two(4) + good[4:],
		"no slots":                index(log, 0, 0),
		"no slots, but bytes":     first(log, 3, 0, 2) + body,
		"one slot less":           first(log, 3, 3, 2) + body,
		"one slot more":           first(log, 3, 5, 2) + body,
		"the most slots":          first(log, 3, 65535, 2) + body,
		"no check of the slots":   good[:len(good)-4],
		"the first bytes alone":   good[:20],
		"the log in its place":    log,
		"something ahead of it":   "x" + good,
		"a slot's byte less, cut": good[:20] + body[1:],
	} {
		wantLook(t, what, log, ix, "a", "", 0, api.ErrForm)
		wantLook(t, what+", for what is not there", log, ix, "d", "", 0, api.ErrForm)
	}
	for i := range 20 {
		for bit := range 8 {
			turned := []byte(good)
			turned[i] ^= 1 << bit
			wantLook(t, "bit "+strconv.Itoa(8*i+bit)+" turned", log, string(turned), "a", "", 0, api.ErrForm)
		}
	}
}

// P4: what the first bytes may say without being asked.
func TestP4NotAsked(t *testing.T) {
	log, _, slots := three()
	good := index(log, 3, 2, slots...)
	wantLook(t, "the slots' check", log, good[:len(good)-4]+"????", "c", "zz", 3, api.OK)
	for _, live := range []int{0, 1, 2001, 65535} {
		wantLook(t, "the count of live keys", log, index(log, live, 2, slots...), "c", "zz", 3, api.OK)
	}
	wantLook(t, "the farthest", log, index(log, 3, 65535, slots...), "c", "zz", 3, api.OK)
}

// P4: an index of another log.
func TestP4Old(t *testing.T) {
	log, _, slots := three()
	good := index(log, 3, 2, slots...)
	for what, other := range map[string]string{
		"a byte more":     log + "\x00",
		"a block more":    log + block(put("a", "y")),
		"a byte less":     log[:len(log)-1],
		"nothing":         "",
		"the head alone":  log[:14],
		"another value":   strings.Replace(log, "p\x01\x01ax", "p\x01\x01ay", 1),
		"a wrong head":    "XX" + log[2:],
		"the same length": strings.Repeat("x", len(log)),
	} {
		wantLook(t, what, other, good, "a", "", 0, api.ErrOld)
	}
	sumOnly := sealed(good[:8]+four(len(log)+1)+good[12:16]) + good[20:]
	wantLook(t, "the sum alone is the log's", log, sumOnly, "a", "", 0, api.ErrOld)
	sizeOnly := sealed(good[:12]+four(5)) + good[20:]
	wantLook(t, "the size alone is the log's", log, sizeOnly, "a", "", 0, api.ErrOld)
}

// P4: a log whose head is none, of which the index is.
func TestP4WrongHeads(t *testing.T) {
	b := block(put("a", "x"))
	for what, log := range map[string]string{
		"nothing":       "",
		"a short log":   "nothing",
		"a cut head":    head(100, 7, 0)[:13],
		"other letters": sealed("GL"+head(100, 7, 0)[2:10]) + b,
		"a wrong check": head(100, 7, 0)[:10] + "????" + b,
		"Block 0":       head(0, 7, 0) + b,
		"Block 401":     head(401, 7, 0) + b,
		"Bits 33":       head(100, 7, 33) + b,
	} {
		wantLook(t, what, log, index(log, 1, 0, slot(0, 14, 0)), "a", "", 0, api.ErrForm)
		wantLook(t, what+", an empty slot", log, index(log, 0, 0, empty), "a", "", 0, api.ErrForm)
	}
}

// P4: the errors in their order: the index's form, then its age, then the head.
func TestP4Order(t *testing.T) {
	log, _, slots := three()
	good := index(log, 3, 2, slots...)
	wantLook(t, "wrong form, old, no head", "other", good+"x", "a", "", 0, api.ErrForm)
	wantLook(t, "wrong check, old, no head", "other", good[:16]+"????"+good[20:], "a", "", 0, api.ErrForm)
	wantLook(t, "no slots, old", "other", index(log, 0, 0), "a", "", 0, api.ErrForm)
	wantLook(t, "old, no head", "other", good, "a", "", 0, api.ErrOld)
	wantLook(t, "no head, an empty slot", "other", index("other", 0, 0, empty), "a", "", 0, api.ErrForm)
	lost := slot(0, 0, 0)
	wantLook(t, "empty ahead of a lie", log, index(log, 3, 2, empty, lost), "a", "", 1, api.ErrNone)
	wantLook(t, "found ahead of a lie", log, index(log, 3, 2, slots[0], lost), "a", "x", 1, api.OK)
	wantLook(t, "a lie ahead of what is found", log, index(log, 3, 2, lost, slots[0]), "a", "", 0, api.ErrForm)
	wantLook(t, "a lie behind the farthest", log, index(log, 3, 0, slots[0], lost), "b", "", 1, api.ErrNone)
	wantLook(t, "a lie behind another key", log, index(log, 3, 1, slots[0], lost), "b", "", 0, api.ErrForm)
}

// P4: slots that lie about their places.
func TestP4Lies(t *testing.T) {
	log, second, _ := three()
	for at := range len(log) + 3 {
		if at == 14 || at == second {
			continue
		}
		wantLook(t, "no block at "+strconv.Itoa(at), log, index(log, 1, 0, slot(0, at, 0)), "a", "", 0, api.ErrForm)
	}
	for _, at := range []int{1 << 16, 1<<31 - 1, 1 << 31, 1<<32 - 1, 1<<32 - 14} {
		wantLook(t, "no block far behind", log, index(log, 1, 0, slot(0, at, 0)), "a", "", 0, api.ErrForm)
	}
	for _, at := range []int{2, 3, 4, 128, 255} {
		wantLook(t, "no such entry, or a delete", log, index(log, 1, 0, slot(0, 14, at)), "z", "", 0, api.ErrForm)
	}
	wantLook(t, "no second entry", log, index(log, 1, 0, slot(0, second, 1)), "c", "", 0, api.ErrForm)
	wantLook(t, "another key", log, index(log, 1, 0, slot(0, second, 0)), "a", "", 1, api.ErrNone)
	wantLook(t, "no key, and a lie", log, index(log, 1, 0, slot(0, 15, 0)), "", "", 0, api.ErrForm)
}

// P4: a block that begins in the head is none, even if its bytes are right.
func TestP4BlockInTheHead(t *testing.T) {
	for _, inside := range []int{1, 2} {
		b := block(put("a", "x"))
		seed := 0
		for !strings.HasSuffix(head(100, seed, 0), b[:inside]) {
			seed++
		}
		log := head(100, seed, 0) + b[inside:]
		wantLook(t, "a block in the head", log, index(log, 1, 0, slot(0, 14-inside, 0)), "a", "", 0, api.ErrForm)
	}
}

// P4: the block must be right in all, its other entries too.
func TestP4WrongBlocks(t *testing.T) {
	h, a := head(10, 7, 0), put("a", "x")
	good := block(a)
	for what, b := range map[string]string{
		"a wrong check":                 good[:len(good)-4] + "????",
		"a cut check":                   good[:len(good)-1],
		"cut behind its front":          good[:3],
		"cut in its front":              good[:2],
		"no entries":                    counted(0, a),
		"more entries than there are":   counted(2, a),
		"fewer entries than there are":  counted(1, a+del("b")),
		"a length too long":             sealed("\x01" + two(6) + a),
		"the second entry wrong":        block(a, entry("q", "b", "")),
		"the second entry's key wrong":  block(a, put("", "")),
		"two entries longer than Block": block(a, put("b", "xx")),
		"a delete":                      block(del("a")),
		"a delete with a value":         block(entry("d", "a", "x")),
	} {
		log := h + b
		wantLook(t, what, log, index(log, 1, 0, slot(0, 14, 0)), "a", "", 0, api.ErrForm)
	}
	log := h + block(a, put("b", "x"))
	wantLook(t, "two entries of Block bytes", log, index(log, 1, 0, slot(0, 14, 0)), "a", "x", 1, api.OK)
	key, value := strings.Repeat("k", 20), strings.Repeat("v", 30)
	log = h + block(put(key, value))
	wantLook(t, "one entry longer than Block", log, index(log, 1, 0, slot(0, 14, 0)), key, value, 1, api.OK)
}

// P4: what is ahead of a block and behind it is not looked at.
func TestP4AroundTheBlock(t *testing.T) {
	h, b := head(100, 7, 0), block(put("a", "x"))
	log := h + "rubbish" + b + "rubbish"
	wantLook(t, "rubbish around", log, index(log, 1, 0, slot(0, 21, 0)), "a", "x", 1, api.OK)
	log = h + block(put("outer", b))
	at := strings.Index(log, b)
	wantLook(t, "a block in a value", log, index(log, 1, 0, slot(0, at, 0)), "a", "x", 1, api.OK)
	log = h + block(put("a", "x")) + block(put("a", "y"))
	wantLook(t, "an old value", log, index(log, 1, 0, slot(0, 14, 0)), "a", "x", 1, api.OK)
	log = h + strings.Repeat("r", 200000) + b
	wantLook(t, "a log longer than a disk", log, index(log, 1, 0, slot(0, 200014, 0)), "a", "x", 1, api.OK)
}

// P4: the longest look there can be ends: each slot leads to a full block.
func TestP4LongestLook(t *testing.T) {
	log := head(400, 7, 0) + counted(100, strings.Repeat("p\x01\x00k", 100))
	slots := strings.Repeat(slot(0, 14, 99), 65535)
	ix := first(log, 1, 65535, 65535) + sealed(slots)
	wantLook(t, "every slot and one more", log, ix, "a", "", 65536, api.ErrNone)
	log = head(400, 7, 0) + sealed("\x01"+two(65535)+strings.Repeat("p", 65535))
	wantLook(t, "a block that is too long", log, index(log, 1, 65535, slot(0, 14, 0)), "a", "", 0, api.ErrForm)
}

// P4: what is no key is looked for by its number all the same.
func TestP4NoKeys(t *testing.T) {
	log := head(100, 7, 32) + block(put("a", "x"), put(strings.Repeat("k", 20), "y"))
	for _, key := range []string{"", strings.Repeat("k", 21), strings.Repeat("k", 300), strings.Repeat("\x00", 100000)} {
		n := int(uint32(fnv64(four(7) + key)))
		name := strconv.Itoa(len(key)) + " bytes"
		wantLook(t, name, log, index(log, 1, 2, slot(n, 14, 0), slot(n, 14, 1)), key, "", 3, api.ErrNone)
		wantLook(t, name+", a lie", log, index(log, 1, 2, slot(n, 15, 0), slot(n, 14, 1)), key, "", 0, api.ErrForm)
		wantLook(t, name+", an empty slot", log, index(log, 1, 2, empty), key, "", 1, api.ErrNone)
		slots := []string{slot(n^1, 14, 0), slot(n^1, 14, 0), slot(n^1, 14, 0)}
		slots[(n+1)%3] = empty
		wantLook(t, name+", from its home", log, index(log, 1, 2, slots...), key, "", 2, api.ErrNone)
	}
}
