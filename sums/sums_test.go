package sums

import (
	"hash/crc32"
	"hash/fnv"
	"strings"
	"testing"
)

// texts: every byte alone, and longer ones.
func texts() []string {
	all := ""
	list := []string{"", "123456789", strings.Repeat("\x00", 50), strings.Repeat("\xff", 51)}
	for i := range 256 {
		list = append(list, string([]byte{byte(i)}))
		all += string([]byte{byte(i)})
	}
	return append(list, all, all+all)
}

func TestCheckIsCRC32(t *testing.T) {
	if c := Check("123456789"); c != 0xcbf43926 {
		t.Errorf("the check of 123456789 is %x", c)
	}
	for _, s := range texts() {
		want := crc32.ChecksumIEEE([]byte(s))
		if Check(s) != want || Check([]byte(s)) != want {
			t.Errorf("Check(%q) = %x, %x, want %x", s, Check(s), Check([]byte(s)), want)
		}
	}
}

func TestHashIsFNV1a(t *testing.T) {
	for _, s := range texts() {
		h := fnv.New64a()
		h.Write([]byte(s))
		if Hash(s) != h.Sum64() || Hash(s[:len(s)/2], "", s[len(s)/2:]) != h.Sum64() {
			t.Errorf("Hash(%q) = %d, want %d", s, Hash(s), h.Sum64())
		}
	}
}

func TestSealHolds(t *testing.T) {
	for _, s := range texts() {
		sealed := string(Seal([]byte(s)))
		if len(sealed) != len(s)+CheckSize || sealed[:len(s)] != s || !Holds(sealed) {
			t.Errorf("Seal(%q) = %q does not hold", s, sealed)
		}
		if Holds(sealed[:len(sealed)-1]) || Holds(sealed+"\x00") || Holds("x"+sealed) {
			t.Errorf("%q holds though it was cut or made longer", sealed)
		}
	}
	for _, s := range []string{"", "a", "abc"} {
		if Holds(s) {
			t.Errorf("%q is too short for a check, and holds", s)
		}
	}
}

func TestLowestByteFirst(t *testing.T) {
	for _, c := range []struct {
		n, size int
		want    string
	}{{0, 0, ""}, {0, 2, "\x00\x00"}, {100, 2, "d\x00"}, {0x1234, 2, "\x34\x12"}, {0xfedcba98, 4, "\x98\xba\xdc\xfe"}, {255, 1, "\xff"}} {
		if b := string(AppendLow([]byte("x"), c.n, c.size)); b != "x"+c.want {
			t.Errorf("AppendLow(x, %d, %d) = %q", c.n, c.size, b)
		}
		if n := Low(c.want); n != c.n {
			t.Errorf("Low(%q) = %d, want %d", c.want, n, c.n)
		}
	}
}
