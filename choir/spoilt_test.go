package choir_test

import (
	"math/rand"
	"testing"

	"choir/api"
	"choir/choir"
)

// turned: the bits at + k of s, for each bit k of mask; false, if s has none of them.
func turned(s string, at int, mask uint32) (string, bool) {
	x := []byte(s)
	some := false
	for k := range 32 {
		if n := at + k; mask>>k&1 == 1 && n < 8*len(x) {
			x[n/8] ^= 1 << (n % 8)
			some = true
		}
	}
	return string(x), some
}

func masks() []uint32 {
	list := []uint32{0xFFFFFFFF, 0x82F63B78, 0x1EDC6F41, 0x05EC76F1, 0xAAAAAAAA, 0x55555555, 0xFF, 0xFF00FF00, 0x80000001}
	for k := range 32 {
		list = append(list, 1<<k, 1<<k|1, 1<<k-1, 3<<k)
	}
	r := rand.New(rand.NewSource(3))
	for range 100 {
		list = append(list, r.Uint32())
	}
	return list
}

func TestTurnedBitsLeaveNoFrame(t *testing.T) {
	for _, b := range [][]api.Series{nil, series(api.Sample{Time: 1, Bits: 2}), two()} {
		s, _ := choir.Encode(b)
		for at := range 8 * len(s) {
			for _, mask := range masks() {
				x, some := turned(s, at, mask)
				if !some {
					continue
				}
				if got, e := choir.Decode(x); e != api.ErrFrame || len(got) != 0 {
					t.Fatalf("P17: %x turned at %d by %x: %v, %d", s, at, mask, got, e)
				}
			}
		}
	}
}

// A frame whose sum a turn of bits makes fit again would be another frame: so the sum must see each bit in its place.
func TestTurnedBitsOfLongFrame(t *testing.T) {
	s, _ := choir.Encode(fullest())
	for at := 0; at < 8*len(s); at += 37 {
		for _, mask := range []uint32{1, 0xFFFFFFFF, 0x82F63B78} {
			x, _ := turned(s, at, mask)
			if _, e := choir.Decode(x); e != api.ErrFrame {
				t.Fatalf("P17: turned at %d by %x: %d", at, mask, e)
			}
		}
	}
}
