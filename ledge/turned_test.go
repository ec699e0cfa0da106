package ledge_test

import (
	"math/rand"
	"strings"
	"testing"

	"ledge/api"
	"ledge/ledge"
)

// turned: the bits of a pattern turned in s, from this bit on; of each byte
// the lowest comes first.
func turned(s string, from int, pattern uint32) string {
	b := []byte(s)
	for i := range 32 {
		if pattern>>i&1 == 1 {
			b[(from+i)/8] ^= 1 << ((from + i) % 8)
		}
	}
	return string(b)
}

// patterns: in so many bits in a row: all turned, the outermost, and some.
func patterns(bits int, r *rand.Rand) []uint32 {
	all := uint32(1<<bits - 1)
	ends := uint32(1)<<(bits-1) | 1
	return []uint32{all, ends, ends | r.Uint32()&all}
}

// P11: up to 32 bits in a row, in a head or in a block behind its first three
// bytes, are found out wherever they are turned.
func TestP11TurnedBits(t *testing.T) {
	r := rand.New(rand.NewSource(11))
	parts := []string{
		head(100, 7, 32),
		block(put("a", "x")),
		block(put("a", "y"), del("b"), put("c", strings.Repeat("v", 30))),
		block(del("a")),
		block(put(strings.Repeat("k", 20), strings.Repeat("\x00", 30)), put("\xff", "")),
	}
	log := strings.Join(parts, "")
	wantLog(t, "nothing turned", log)
	begin := 0
	for i, part := range parts {
		from, end := 8*begin, 8*(begin+len(part))
		if i > 0 {
			from += 8 * 3
		}
		for bits := 1; bits <= 32; bits++ {
			for at := from; at+bits <= end; at++ {
				for _, p := range patterns(bits, r) {
					if s, e := ledge.Index(turned(log, at, p)); s != "" || e != api.ErrForm {
						t.Fatalf("%d bits turned from bit %d on, by %b: Index = %q, %d", bits, at, p, s, e)
					}
				}
			}
		}
		begin += len(part)
	}
}

// P11: also in a head with nothing behind it, of every Block and Bits.
func TestP11TurnedHeads(t *testing.T) {
	r := rand.New(rand.NewSource(12))
	for block := 1; block <= api.MaxBlock; block += 7 {
		for n := 0; n <= 32; n += 8 {
			h := head(block, int(r.Uint32()), n)
			wantLog(t, "nothing turned", h)
			for bits := 1; bits <= 32; bits++ {
				at := r.Intn(8*len(h) - bits + 1)
				for _, p := range patterns(bits, r) {
					wantNoLog(t, "a turned head", turned(h, at, p))
				}
			}
		}
	}
}
