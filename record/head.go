// Package record: what a log's bytes are, and what they say.
package record

import (
	"ledge/api"
	"ledge/sums"
)

// HeadSize is how many bytes a log's head has.
const HeadSize = 14

const (
	headMark = "LG"
	seedSize = 4
	maxSeed  = 1<<(8*seedSize) - 1
	maxBits  = 32
)

// IsKey tells whether these bytes may be a key.
func IsKey(key string) bool { return 1 <= len(key) && len(key) <= api.MaxKey }

// IsValue tells whether these bytes may be a value.
func IsValue(value string) bool { return len(value) <= api.MaxValue }

// IsSeed tells whether a log may have this seed.
func IsSeed(seed int) bool { return 0 <= seed && seed <= maxSeed }

// IsBits tells whether so many bits may count.
func IsBits(bits int) bool { return 0 <= bits && bits <= maxBits }

// IsConfig tells whether a head may say this.
func IsConfig(c api.Config) bool {
	return 1 <= c.Block && c.Block <= api.MaxBlock && IsSeed(c.Seed) && IsBits(c.Bits)
}

// Head tells the head that says this.
func Head(c api.Config) []byte {
	b := []byte(headMark)
	b = sums.AppendLow(b, c.Block, 2)
	b = sums.AppendLow(b, c.Seed, seedSize)
	b = sums.AppendLow(b, c.Bits, 2)
	return sums.Seal(b)
}

// ReadHead reads the head that a log begins with.
func ReadHead(log string) (api.Config, bool) {
	if len(log) < HeadSize || log[:2] != headMark || !sums.Holds(log[:HeadSize]) {
		return api.Config{}, false
	}
	c := api.Config{Block: sums.Low(log[2:4]), Seed: sums.Low(log[4:8]), Bits: sums.Low(log[8:10])}
	if !IsConfig(c) {
		return api.Config{}, false
	}
	return c, true
}

// Number tells the number of any bytes, also of what is no key: they may be
// looked for all the same.
func Number(c api.Config, key string) int {
	seed := sums.AppendLow(nil, c.Seed, seedSize)
	return int(sums.Hash(string(seed), key) & (1<<c.Bits - 1))
}
