package ledge_test

import (
	"math/rand"
	"strconv"
	"strings"
	"testing"

	"ledge/api"
	"ledge/ledge"
)

// change puts or deletes one of so many keys, and notes in said what that comes to.
func change(t *testing.T, r *rand.Rand, s *ledge.Store, said map[string]string, keys int) {
	t.Helper()
	key := strconv.Itoa(r.Intn(keys))
	if r.Intn(3) == 0 {
		wantDelete(t, s, key)
		delete(said, key)
		return
	}
	value := strings.Repeat(string(rune('a'+r.Intn(26))), r.Intn(31))
	wantPut(t, s, key, value)
	said[key] = value
}

// wantFound: Get of each key tells what was put last, or that there is none;
// no look takes more slots than the index says.
func wantFound(t *testing.T, s *ledge.Store, said map[string]string, keys int) {
	t.Helper()
	log, _ := s.File("log")
	ix, _ := s.File("index")
	far := le(ix[6:8])
	asked := []string{"", "never", strings.Repeat("k", 20), strings.Repeat("k", 21)}
	for i := range keys {
		asked = append(asked, strconv.Itoa(i))
	}
	for _, key := range asked {
		value, there := said[key]
		want := api.OK
		if !there {
			want = api.ErrNone
		}
		wantGet(t, s, key, value, want)
		v, looked, e := ledge.Look(log, ix, key)
		if v != value || e != want || looked < 1 || looked > far+1 {
			t.Fatalf("Look for %q took %d slots, the farthest stands %d away: %q, %d", key, looked, far, v, e)
		}
	}
	if l, e := s.All(nil); len(l) != len(said) || e != api.OK {
		t.Errorf("All = %d items, %d, want %d", len(l), e, len(said))
	}
}

// P9: whatever is put and deleted, after Build each key tells what was put
// last, of what stood in the log then: what waited is not among it.
func TestP9EveryKeyIsFound(t *testing.T) {
	r := rand.New(rand.NewSource(9))
	for _, bits := range []int{0, 1, 4, 8, 32} {
		for _, keys := range []int{1, 10, 60} {
			s := created(t, api.MaxRoom, api.Config{Block: 1 + r.Intn(400), Seed: r.Intn(topSeed), Bits: bits})
			said := map[string]string{}
			for range 5 {
				for range r.Intn(3 * keys) {
					change(t, r, s, said, keys)
				}
				wantFlush(t, s)
				wantBuild(t, s)
				wantFound(t, s, said, keys)
			}
			waits := map[string]string{}
			change(t, r, s, waits, keys) // one waits, whatever Block is
			wantFound(t, s, said, keys)
			wantBuild(t, s)
			wantFound(t, s, said, keys)
		}
	}
}

// P9: with as many live keys as there may be, all of one number and of
// numbers far apart.
func TestP9MostKeys(t *testing.T) {
	for _, bits := range []int{0, 32} {
		s := created(t, api.MaxRoom, api.Config{Block: 400, Bits: bits})
		said := map[string]string{}
		for i := range api.MaxLive {
			key := strconv.Itoa(i)
			wantPut(t, s, key, key)
			said[key] = key
		}
		wantFlush(t, s)
		wantBuild(t, s)
		asked := api.MaxLive
		if bits == 0 {
			asked = 50 // each look goes through the keys ahead
		}
		wantFound(t, s, said, asked)
	}
}
