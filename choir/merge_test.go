package choir_test

import (
	"math/rand"
	"slices"
	"strings"
	"testing"

	"choir/api"
	"choir/choir"
)

func framesOf(batches ...[]api.Series) []string {
	var frames []string
	for _, b := range batches {
		frames = append(frames, modelFrame(b))
	}
	return frames
}

func mergesTo(t *testing.T, frames []string, want string) {
	t.Helper()
	if got, e := choir.Merge(frames...); e != api.OK || got != want {
		t.Errorf("P6: Merge(%x) = %x, %d, want %x", frames, got, e, want)
	}
}

func refusesMerge(t *testing.T, name string, frames []string, want api.Errno) {
	t.Helper()
	if got, e := choir.Merge(frames...); e != want || got != "" {
		t.Errorf("P6: %s: Merge(%x) = %x, %d, want %d", name, frames, got, e, want)
	}
}

func TestMergeOfFewAndMany(t *testing.T) {
	empty := modelFrame(nil)
	mergesTo(t, nil, empty)
	mergesTo(t, []string{}, empty)
	mergesTo(t, []string{empty}, empty)
	mergesTo(t, slices.Repeat([]string{empty}, 100), empty)
	full := modelFrame(fullest())
	mergesTo(t, []string{full}, full)
	mergesTo(t, slices.Repeat([]string{full, empty}, 50), full)
	var each []string
	for _, s := range fullest() {
		for _, x := range s.Samples {
			each = append(each, modelFrame([]api.Series{{Labels: s.Labels, Samples: []api.Sample{x}}}))
		}
	}
	mergesTo(t, each, full)
	slices.Reverse(each)
	mergesTo(t, each, full)
}

func TestMergeTakesTheGreatestOfAll(t *testing.T) {
	a, b, c := series(at(1, 3), at(2, 1), at(3, 2)), series(at(1, 1), at(2, 2), at(3, 3)), series(at(1, 2), at(2, 3), at(3, 1))
	mergesTo(t, framesOf(a, b, c), modelFrame(series(at(1, 3), at(2, 3), at(3, 3))))
}

// What Encode tells in no other way stays so: the texts of all are numbered anew.
func TestMergeNumbersTexts(t *testing.T) {
	a := []api.Series{labelled(api.Label{Key: "b", Value: "d"})}
	b := []api.Series{labelled(api.Label{Key: "a", Value: "b"}), labelled(api.Label{Key: "c", Value: ""})}
	want := []api.Series{b[0], a[0], b[1]}
	mergesTo(t, framesOf(a, b), modelFrame(want))
}

func TestMergeLimits(t *testing.T) {
	mergesTo(t, framesOf(keyed(0, 3), keyed(3, 3), keyed(6, 2)), modelFrame(keyed(0, 8)))
	refusesMerge(t, "a series too many", framesOf(keyed(0, 3), keyed(3, 3), keyed(6, 3)), api.ErrLimit)
	one := func(from, count int) []api.Series { return []api.Series{of("a", run(from, count)...)} }
	mergesTo(t, framesOf(one(0, 15), one(15, 15), one(30, 10)), modelFrame(one(0, 40)))
	refusesMerge(t, "a sample too many", framesOf(one(0, 15), one(15, 15), one(30, 11)), api.ErrLimit)
	// The first two are too much already; what follows does not mend it.
	refusesMerge(t, "too much early", framesOf(keyed(0, 8), keyed(8, 1), nil), api.ErrLimit)
	refusesMerge(t, "too much late", framesOf(nil, keyed(0, 8), keyed(8, 1)), api.ErrLimit)
}

func TestMergeRefuses(t *testing.T) {
	good := modelFrame(two())
	beyond := modelFrame(keyed(0, 9))
	spoilt, _ := turned(good, 60, 1)
	for name, bad := range map[string]string{
		"nothing": "", "a letter": "x", "cut": good[:len(good)-1], "longer": good + "\x00", "two in one": good + good,
		"spoilt": spoilt, "beyond a limit": beyond, "no batch": modelFrame(append(keyed(1, 1), keyed(0, 1)...)),
		"zeros": strings.Repeat("\x00", 20),
	} {
		refusesMerge(t, name, []string{bad}, api.ErrFrame)
		refusesMerge(t, name, []string{bad, bad}, api.ErrFrame)
		for i := range 4 {
			frames := slices.Insert([]string{good, modelFrame(nil), good}, i, bad)
			refusesMerge(t, name, frames, api.ErrFrame)
			// That there is no frame is named ahead of the limits, wherever it stands.
			frames = slices.Insert(framesOf(keyed(0, 8), keyed(8, 8), keyed(16, 1)), i, bad)
			refusesMerge(t, name, frames, api.ErrFrame)
		}
	}
}

func TestRandomMerges(t *testing.T) {
	r := rand.New(rand.NewSource(3))
	told := map[api.Errno]int{}
	for range 1000 {
		names, times := 1+r.Intn(10), 1+r.Intn(80)
		var batches [][]api.Series
		for range r.Intn(6) {
			batches = append(batches, meeting(r, names, times))
		}
		want := modelJoin(batches...)
		told[modelLimit(want)]++
		if modelLimit(want) == api.OK {
			mergesTo(t, framesOf(batches...), modelFrame(want))
		} else {
			refusesMerge(t, "random", framesOf(batches...), api.ErrLimit)
		}
	}
	if told[api.OK] < 250 || told[api.ErrLimit] < 250 {
		t.Errorf("too few of a kind to say anything: %v", told)
	}
}
