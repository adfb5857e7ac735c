package join

import (
	"cmp"
	"math/rand"
	"slices"
	"testing"

	"choir/api"
)

func TestRestsAreTakenInOrder(t *testing.T) {
	r := rand.New(rand.NewSource(1))
	for range 300 {
		var lists [][]int
		want := map[int]int{}
		for range r.Intn(7) {
			var list []int
			for range r.Intn(5) {
				n := r.Intn(12)
				list = append(list, n)
				want[n]++
			}
			slices.Sort(list)
			lists = append(lists, list)
		}
		left := restsOf(lists, cmp.Compare[int])
		last := -1
		for left.Len() > 0 {
			alike := left.takeAlike()
			n := alike[0]
			if n <= last || len(alike) != want[n] || slices.Min(alike) != n || slices.Max(alike) != n {
				t.Fatalf("of %v: %v behind %d", lists, alike, last)
			}
			delete(want, n)
			last = n
		}
		if len(want) > 0 {
			t.Fatalf("of %v: %v is not taken", lists, want)
		}
	}
}

func TestAllOfNone(t *testing.T) {
	for _, batches := range [][][]api.Series{nil, {nil}, {{}, nil, {}}} {
		if b, e := All(batches...); e != api.OK || len(b) != 0 {
			t.Errorf("%v: %v, %d", batches, b, e)
		}
	}
}
