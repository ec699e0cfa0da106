package ledge_test

import (
	"math"
	"strings"
	"testing"

	"ledge/api"
	"ledge/ledge"
)

const topSeed = 4294967295

// P2: the number is the lowest bits of the FNV-1a of the seed and the key.
func TestP2Number(t *testing.T) {
	if n, e := ledge.Number(0, 32, "a"); n != 623592572 || e != api.OK {
		t.Errorf("Number(0, 32, a) = %d, %d", n, e)
	}
	keys := []string{"a", "b", "\x00", "\xff", "é", "ab", strings.Repeat("k", 19), strings.Repeat("\x80", 20)}
	for _, seed := range []int{0, 1, 7, 255, 256, 0x12345678, topSeed - 1, topSeed} {
		for bits := range 33 {
			for _, key := range keys {
				want := int(fnv64(four(seed)+key) % (1 << bits))
				if n, e := ledge.Number(seed, bits, key); n != want || e != api.OK {
					t.Errorf("Number(%d, %d, %q) = %d, %d, want %d", seed, bits, key, n, e, want)
				}
			}
		}
	}
}

// P2: what is beyond a bound is ErrArg, each of it alone and all at once.
func TestP2WrongArguments(t *testing.T) {
	for _, c := range []struct {
		seed, bits int
		key        string
	}{
		{-1, 32, "a"}, {topSeed + 1, 32, "a"}, {math.MinInt, 32, "a"}, {math.MaxInt, 32, "a"},
		{0, -1, "a"}, {0, 33, "a"}, {0, 64, "a"}, {0, math.MinInt, "a"}, {0, math.MaxInt, "a"},
		{0, 32, ""}, {0, 32, strings.Repeat("k", 21)}, {0, 32, strings.Repeat("k", 276)}, {0, 0, ""},
		{-1, -1, ""},
	} {
		if n, e := ledge.Number(c.seed, c.bits, c.key); n != 0 || e != api.ErrArg {
			t.Errorf("Number(%d, %d, %q) = %d, %d, want ErrArg", c.seed, c.bits, c.key, n, e)
		}
	}
}
