package choir_test

import (
	"math/rand"
	"testing"

	"choir/api"
	"choir/choir"
)

// few makes batches whose join is within limits.
func few(r *rand.Rand) [][]api.Series {
	for {
		names, times := 1+r.Intn(8), 1+r.Intn(40)
		var batches [][]api.Series
		for range 1 + r.Intn(5) {
			batches = append(batches, meeting(r, names, times))
		}
		if modelLimit(modelJoin(batches...)) == api.OK {
			return batches
		}
	}
}

// folded: the join of some, two at a time, by a tree that r chooses.
func folded(t *testing.T, r *rand.Rand, batches [][]api.Series) []api.Series {
	t.Helper()
	if len(batches) == 1 {
		return batches[0]
	}
	cut := 1 + r.Intn(len(batches)-1)
	joined, e := choir.Join(folded(t, r, batches[:cut]), folded(t, r, batches[cut:]))
	if e != api.OK {
		t.Errorf("P16: %d of a part of what is within limits", e)
	}
	return joined
}

// grouped: the same by Merge, any number at a time.
func grouped(t *testing.T, r *rand.Rand, frames []string) string {
	t.Helper()
	var groups []string
	for from := 0; from < len(frames); {
		to := from + 1 + r.Intn(len(frames)-from)
		merged, e := choir.Merge(frames[from:to]...)
		if e != api.OK {
			t.Errorf("P16: %d of a part of what is within limits", e)
		}
		groups = append(groups, merged)
		from = to
	}
	merged, _ := choir.Merge(groups...)
	return merged
}

func TestOrderGroupingAndHowOften(t *testing.T) {
	r := rand.New(rand.NewSource(4))
	for range 100 {
		batches := few(r)
		want := modelJoin(batches...)
		for range 5 {
			again := batches
			for range r.Intn(5) {
				again = append(again[:len(again):len(again)], batches[r.Intn(len(batches))])
			}
			turned := make([][]api.Series, len(again))
			for i, k := range r.Perm(len(again)) {
				turned[i] = again[k]
			}
			if got := folded(t, r, turned); !same(got, want) {
				t.Fatalf("P16: joined in another way: %v, want %v", got, want)
			}
			frames := framesOf(turned...)
			mergesTo(t, frames, modelFrame(want))
			if got := grouped(t, r, frames); got != modelFrame(want) {
				t.Fatalf("P16: merged in groups: %x, want %x", got, modelFrame(want))
			}
		}
	}
}

// All orders of three that differ in every way: in labels, in times, in Bits at one time.
func TestAllOrdersOfThree(t *testing.T) {
	a := []api.Series{of("a", at(1, 1), at(2, 9)), of("b", at(1, 1))}
	b := []api.Series{{Samples: run(0, 3)}, of("a", at(1, 5), at(3, 5))}
	c := []api.Series{of("a", at(1, 1<<63), at(2, 0)), of("c", at(-1, 1))}
	want := []api.Series{{Samples: run(0, 3)}, of("a", at(1, 1<<63), at(2, 9), at(3, 5)), of("b", at(1, 1)), of("c", at(-1, 1))}
	for _, l := range [][3][]api.Series{{a, b, c}, {a, c, b}, {b, a, c}, {b, c, a}, {c, a, b}, {c, b, a}} {
		left, _ := choir.Join(l[0], l[1])
		joinsTo(t, "the first two ahead", left, l[2], want)
		joinsTo(t, "once more", want, l[0], want)
		mergesTo(t, framesOf(l[:]...), modelFrame(want))
	}
}
