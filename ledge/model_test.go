package ledge_test

import (
	"encoding/binary"
	"math/rand"
	"sort"
	"strings"
	"testing"

	"ledge/api"
	"ledge/ledge"
)

// A second telling of the document, slow and plain, which the program is held
// against on logs and indexes of all kinds.

type modelEntry struct {
	kind       byte
	key, value string
}

type modelPlace struct{ block, entry int }

func le(s string) int {
	var b [8]byte
	copy(b[:], s)
	return int(binary.LittleEndian.Uint64(b[:]))
}

func checked(s string) bool { return len(s) >= 4 && sealed(s[:len(s)-4]) == s }

func modelHead(log string) (block, seed, bits int, ok bool) {
	if len(log) < 14 || !strings.HasPrefix(log, "LG") || !checked(log[:14]) {
		return
	}
	block, seed, bits = le(log[2:4]), le(log[4:8]), le(log[8:10])
	return block, seed, bits, block >= 1 && block <= 400 && bits <= 32
}

func modelNumber(seed, bits int, key string) int {
	n := fnv64(four(seed) + key)
	for i := bits; i < 64; i++ {
		n &^= 1 << i
	}
	return int(n)
}

// modelBlock: the entries of the block that s begins with, and its bytes; 0
// bytes, if it is none.
func modelBlock(s string, most int) (entries []modelEntry, size int) {
	if len(s) < 7 {
		return nil, 0
	}
	count, bytes := le(s[:1]), le(s[1:3])
	if len(s) < 7+bytes || !checked(s[:7+bytes]) || count == 0 || count > 1 && bytes > most {
		return nil, 0
	}
	for rest := s[3 : 3+bytes]; rest != ""; {
		if len(rest) < 3 {
			return nil, 0
		}
		k, v := le(rest[1:2]), le(rest[2:3])
		if k == 0 || k > 20 || v > 30 || len(rest) < 3+k+v || !(rest[0] == 'p' || rest[0] == 'd' && v == 0) {
			return nil, 0
		}
		entries = append(entries, modelEntry{rest[0], rest[3 : 3+k], rest[3+k : 3+k+v]})
		rest = rest[3+k+v:]
	}
	if len(entries) != count {
		return nil, 0
	}
	return entries, 7 + bytes
}

// modelWhole: a log up to where no right block begins any more.
func modelWhole(log string) string {
	most, _, _, _ := modelHead(log)
	at := 14
	for {
		_, size := modelBlock(log[at:], most)
		if size == 0 {
			return log[:at]
		}
		at += size
	}
}

// modelEntries: all entries of a log, from the first on.
func modelEntries(log string) []modelEntry {
	most, _, _, _ := modelHead(log)
	var all []modelEntry
	for rest := modelWhole(log)[14:]; rest != ""; {
		entries, size := modelBlock(rest, most)
		all = append(all, entries...)
		rest = rest[size:]
	}
	return all
}

// modelLive: the live keys with their places.
func modelLive(log string) (map[string]modelPlace, bool) {
	most, _, _, ok := modelHead(log)
	if !ok || len(log) > 100000 {
		return nil, false
	}
	live := map[string]modelPlace{}
	for at := 14; at != len(log); {
		entries, size := modelBlock(log[at:], most)
		if size == 0 {
			return nil, false
		}
		for i, e := range entries {
			delete(live, e.key)
			if e.kind == 'p' {
				live[e.key] = modelPlace{at, i}
			}
		}
		at += size
	}
	return live, len(live) <= 2000
}

// modelSlot: which key stands there, and how far it has gone.
type modelSlot struct {
	key string
	far int
}

func modelIndex(log string) (string, api.Errno) {
	live, ok := modelLive(log)
	if !ok {
		return "", api.ErrForm
	}
	_, seed, bits, _ := modelHead(log)
	var keys []string
	for k := range live {
		keys = append(keys, k)
	}
	sort.Slice(keys, func(i, j int) bool {
		a, b := live[keys[i]], live[keys[j]]
		return a.block < b.block || a.block == b.block && a.entry < b.entry
	})
	n := 4
	for n <= len(keys)+len(keys)/4 {
		n += n
	}
	slots := make([]modelSlot, n)
	for _, k := range keys {
		modelPut(slots, modelNumber(seed, bits, k)%n, modelSlot{key: k})
	}
	far, list := 0, []string{}
	for _, s := range slots {
		if s.key == "" {
			list = append(list, empty)
			continue
		}
		far = max(far, s.far)
		list = append(list, slot(modelNumber(seed, bits, s.key), live[s.key].block, live[s.key].entry))
	}
	return index(log, len(keys), far, list...), api.OK
}

func modelPut(slots []modelSlot, at int, s modelSlot) {
	if slots[at].key == "" {
		slots[at] = s
		return
	}
	if slots[at].far < s.far {
		slots[at], s = s, slots[at]
	}
	s.far++
	modelPut(slots, (at+1)%len(slots), s)
}

func modelLook(log, ix, key string) (string, int, api.Errno) {
	if len(ix) < 20 || ix[:2] != "IX" || !checked(ix[:20]) || le(ix[4:6]) < 1 || len(ix) != 24+10*le(ix[4:6]) {
		return "", 0, api.ErrForm
	}
	if le(ix[8:12]) != len(log) || le(ix[12:16]) != int(uint32(fnv64(log))) {
		return "", 0, api.ErrOld
	}
	most, seed, bits, ok := modelHead(log)
	if !ok {
		return "", 0, api.ErrForm
	}
	number, slots, looked := modelNumber(seed, bits, key), le(ix[4:6]), 0
	for at := number % slots; looked <= le(ix[6:8]); at = (at + 1) % slots {
		looked++
		s := ix[20+10*at : 30+10*at]
		if s[0] == 0 {
			return "", looked, api.ErrNone
		}
		if s[0] != 1 || le(s[1:5]) != number {
			continue
		}
		begin := le(s[5:9])
		if begin < 14 || begin > len(log) {
			return "", 0, api.ErrForm
		}
		entries, _ := modelBlock(log[begin:], most)
		if le(s[9:]) >= len(entries) || entries[le(s[9:])].kind != 'p' {
			return "", 0, api.ErrForm
		}
		if e := entries[le(s[9:])]; e.key == key {
			return e.value, looked, api.OK
		}
	}
	return "", looked, api.ErrNone
}

// randomLog: blocks of puts and deletes of few keys.
func randomLog(r *rand.Rand) string {
	most := []int{1, 10, 30, 100, 400}[r.Intn(5)]
	log := head(most, r.Intn(5), []int{0, 1, 2, 3, 5, 31, 32}[r.Intn(7)])
	for range r.Intn(12) {
		var entries []string
		size := 0
		for {
			e := randomEntry(r)
			size += len(e)
			if len(entries) > 0 && (size > most || r.Intn(8) == 0) {
				break
			}
			entries = append(entries, e)
		}
		log += block(entries...)
	}
	return log
}

func randomKey(r *rand.Rand) string {
	return strings.Repeat(string(rune('a'+r.Intn(12))), 1+r.Intn(3))
}

func randomEntry(r *rand.Rand) string {
	if r.Intn(3) == 0 {
		return del(randomKey(r))
	}
	return put(randomKey(r), strings.Repeat("v", r.Intn(31)))
}

// spoiled: bytes changed, cut, doubled or sealed anew.
func spoiled(r *rand.Rand, s string) string {
	b := []byte(s)
	for range 1 + r.Intn(3) {
		if len(b) == 0 {
			return string(b)
		}
		i := r.Intn(len(b))
		switch r.Intn(6) {
		case 0:
			b[i] = byte(r.Intn(256))
		case 1:
			b[i] += byte(1 + r.Intn(3))
		case 2:
			b = b[:i]
		case 3:
			b = append(b[:i:i], b[i+1:]...)
		case 4:
			b = append(b[:i:i], b[i/2:]...)
		case 5:
			b = []byte(resealed(string(b)))
		}
	}
	return resealed(string(b))
}

// resealed: the check of a head or of an index's first bytes made right again,
// so that what lies behind the check is reached.
func resealed(s string) string {
	for mark, size := range map[string]int{"LG": 10, "IX": 16} {
		if strings.HasPrefix(s, mark) && len(s) >= size+4 {
			return sealed(s[:size]) + s[size+4:]
		}
	}
	return s
}

// lied: an index of this log, whose slots say whatever.
func lied(r *rand.Rand, log string) string {
	_, seed, bits, _ := modelHead(log)
	var slots []string
	for range 1 + r.Intn(9) {
		s := slot(modelNumber(seed, bits, randomKey(r)), 14+r.Intn(len(log)), r.Intn(4))
		if p, ok := modelLive(log); ok && r.Intn(4) > 0 {
			live := p[randomKey(r)]
			s = s[:5] + slot(0, live.block, live.entry)[5:]
		}
		if r.Intn(8) == 0 {
			s = string([]byte{byte(r.Intn(3))}) + s[1:]
		}
		slots = append(slots, s)
	}
	return index(log, r.Intn(10), r.Intn(12), slots...)
}

func wantAsModel(t *testing.T, log, ix, key string) {
	t.Helper()
	s, n, e := ledge.Look(log, ix, key)
	ms, mn, me := modelLook(log, ix, key)
	if s != ms || n != mn || e != me {
		t.Fatalf("Look(%q, %q, %q) = %q, %d, %d, want %q, %d, %d", log, ix, key, s, n, e, ms, mn, me)
	}
	if e != api.OK && s != "" || e != api.OK && e != api.ErrNone && n != 0 {
		t.Fatalf("Look(%q, %q, %q) = %q, %d beside the error %d", log, ix, key, s, n, e)
	}
}

// P1, P3, P4: right logs and spoiled ones, right indexes, spoiled ones and
// ones that lie: every call ends, and answers as the document says.
func TestAsTheModel(t *testing.T) {
	r := rand.New(rand.NewSource(4))
	answers := map[api.Errno]int{}
	for range 4000 {
		log := randomLog(r)
		if r.Intn(3) == 0 {
			log = spoiled(r, log)
		}
		ix, e := ledge.Index(log)
		if mix, me := modelIndex(log); ix != mix || e != me {
			t.Fatalf("Index(%q) = %q, %d, want %q, %d", log, ix, e, mix, me)
		}
		if e != api.OK {
			ix = index(log, 1, r.Intn(3), slot(0, 14, 0), slot(r.Intn(4), 14, 1))
		}
		for range 10 {
			key := randomKey(r)
			if r.Intn(10) == 0 {
				key = strings.Repeat("k", r.Intn(30))
			}
			wantAsModel(t, log, ix, key)
			wantAsModel(t, log, spoiled(r, ix), key)
			wantAsModel(t, spoiled(r, log), ix, key)
			if len(log) > 14 {
				wantAsModel(t, log, lied(r, log), key)
			}
			_, _, e := ledge.Look(log, ix, key)
			answers[e]++
		}
	}
	for _, e := range []api.Errno{api.OK, api.ErrNone, api.ErrForm} {
		if answers[e] == 0 {
			t.Errorf("no look was answered by %d: the logs are too much of one kind", e)
		}
	}
}
