package ledge_test

import (
	"encoding/binary"
	"hash/crc32"
	"hash/fnv"
	"strconv"
	"strings"
	"testing"

	"ledge/api"
	"ledge/ledge"
)

// What the tests hand in is made here by the library's own sums, so that it
// does not lean on the program's.

func two(n int) string {
	return string(binary.LittleEndian.AppendUint16(nil, uint16(n)))
}

func four(n int) string {
	return string(binary.LittleEndian.AppendUint32(nil, uint32(n)))
}

func sealed(s string) string { return s + four(int(crc32.ChecksumIEEE([]byte(s)))) }

func fnv64(s string) uint64 {
	h := fnv.New64a()
	h.Write([]byte(s))
	return h.Sum64()
}

func head(block, seed, bits int) string {
	return sealed("LG" + two(block) + four(seed) + two(bits))
}

func entry(kind, key, value string) string {
	return kind + string([]byte{byte(len(key)), byte(len(value))}) + key + value
}

func put(key, value string) string { return entry("p", key, value) }

func del(key string) string { return entry("d", key, "") }

func block(entries ...string) string {
	return counted(len(entries), strings.Join(entries, ""))
}

// counted: a block that says it has so many entries.
func counted(count int, entries string) string {
	return sealed(string([]byte{byte(count)}) + two(len(entries)) + entries)
}

// first: an index's first bytes and their check.
func first(log string, live, slots, far int) string {
	return sealed("IX" + two(live) + two(slots) + two(far) + four(len(log)) + four(int(uint32(fnv64(log)))))
}

func index(log string, live, far int, slots ...string) string {
	return first(log, live, len(slots), far) + sealed(strings.Join(slots, ""))
}

func slot(number, block, entry int) string {
	return "\x01" + four(number) + four(block) + string([]byte{byte(entry)})
}

var empty = strings.Repeat("\x00", 10)

// numbered: the key, of those that have this number, that comes after so many.
func numbered(t *testing.T, seed, bits, number, after int) string {
	t.Helper()
	for i := range 100000 {
		key := "k" + strconv.Itoa(i)
		if n, e := ledge.Number(seed, bits, key); e != api.OK || n != number {
			continue
		}
		if after == 0 {
			return key
		}
		after--
	}
	t.Fatalf("no key has the number %d", number)
	return ""
}

// filled: a log that has exactly so many bytes, and one live key.
func filled(size int) string {
	var b strings.Builder
	b.WriteString(head(100, 0, 32))
	least := len(block(put("a", "")))
	for b.Len() < size {
		left := size - b.Len() - least
		if left > api.MaxValue {
			left = min(api.MaxValue, left-least)
		}
		b.WriteString(block(put("a", strings.Repeat("v", left))))
	}
	return b.String()
}

// many: a log of this head, with so many keys, from the number given on.
func many(head string, from, count int, make func(key string) string) string {
	var b strings.Builder
	b.WriteString(head)
	for i := range count {
		b.WriteString(block(make(strconv.Itoa(from + i))))
	}
	return b.String()
}

func putEmpty(key string) string { return put(key, "") }

func wantIndex(t *testing.T, what, log, want string) {
	t.Helper()
	if s, e := ledge.Index(log); s != want || e != api.OK {
		t.Errorf("%s: Index(%q) = %q, %d, want %q", what, log, s, e, want)
	}
}

func wantLog(t *testing.T, what, log string) {
	t.Helper()
	if s, e := ledge.Index(log); s == "" || e != api.OK {
		t.Errorf("%s: Index = %q, %d, want an index", what, s, e)
	}
}

func wantNoLog(t *testing.T, what, log string) {
	t.Helper()
	if s, e := ledge.Index(log); s != "" || e != api.ErrForm {
		t.Errorf("%s: Index = %q, %d, want ErrForm", what, s, e)
	}
}

func wantLook(t *testing.T, what, log, index, key, value string, looked int, want api.Errno) {
	t.Helper()
	if s, n, e := ledge.Look(log, index, key); s != value || n != looked || e != want {
		t.Errorf("%s: Look of %q = %q, %d, %d, want %q, %d, %d", what, key, s, n, e, value, looked, want)
	}
}
