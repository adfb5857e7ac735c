package choir_test

import (
	"math"
	"math/rand"
	"testing"

	"choir/api"
	"choir/choir"
)

// joinsTo: the join of a and b, and that of b and a, is want; so says Merge of their frames.
func joinsTo(t *testing.T, name string, a, b, want []api.Series) {
	t.Helper()
	for _, c := range [][2][]api.Series{{a, b}, {b, a}} {
		if got, e := choir.Join(c[0], c[1]); e != api.OK || !same(got, want) {
			t.Errorf("P5: %s: Join(%v, %v) = %v, %d, want %v", name, c[0], c[1], got, e, want)
		}
		if got, e := choir.Merge(modelFrame(c[0]), modelFrame(c[1])); e != api.OK || got != modelFrame(want) {
			t.Errorf("P6: %s: Merge of %v, %v = %x, %d, want %v", name, c[0], c[1], got, e, want)
		}
	}
}

// refusesJoin: of a and b, and of b and a, there is no join.
func refusesJoin(t *testing.T, name string, a, b []api.Series, want api.Errno) {
	t.Helper()
	for _, c := range [][2][]api.Series{{a, b}, {b, a}} {
		if got, e := choir.Join(c[0], c[1]); e != want || len(got) != 0 {
			t.Errorf("P5: %s: Join(%v, %v) = %v, %d, want %d", name, c[0], c[1], got, e, want)
		}
	}
}

// at: one sample.
func at(time int, bits uint64) api.Sample { return api.Sample{Time: time, Bits: bits} }

// of: one series whose only label has that key.
func of(key string, samples ...api.Sample) api.Series {
	return api.Series{Labels: []api.Label{{Key: key}}, Samples: samples}
}

// run: that many samples, from one time on.
func run(from, count int) []api.Sample {
	var samples []api.Sample
	for i := range count {
		samples = append(samples, at(from+i, 1))
	}
	return samples
}

// keyed: that many series, from one key on.
func keyed(from, count int) []api.Series {
	var b []api.Series
	for i := range count {
		b = append(b, of(string(rune('a'+from+i)), at(0, 1)))
	}
	return b
}

func TestJoinOfSamples(t *testing.T) {
	for name, c := range map[string]struct{ a, b, want []api.Series }{
		"the document's":          {[]api.Series{of("a", at(5, 1))}, []api.Series{of("a", at(5, 2))}, []api.Series{of("a", at(5, 2))}},
		"equal Bits":              {series(at(5, 7)), series(at(5, 7)), series(at(5, 7))},
		"0 and 1":                 {series(at(5, 0)), series(at(5, 1)), series(at(5, 1))},
		"Bits beyond an int":      {series(at(5, 1<<63)), series(at(5, 1<<63-1)), series(at(5, 1<<63))},
		"the greatest Bits":       {series(at(5, math.MaxUint64)), series(at(5, 0)), series(at(5, math.MaxUint64))},
		"Bits, not what they say": {series(at(5, math.Float64bits(-1))), series(at(5, math.Float64bits(2))), series(at(5, math.Float64bits(-1)))},
		"one time, not one batch": {series(at(1, 9), at(2, 1)), series(at(1, 1), at(2, 9)), series(at(1, 9), at(2, 9))},
		"one behind the other":    {series(at(1, 5), at(2, 4)), series(at(3, 3), at(4, 2)), series(at(1, 5), at(2, 4), at(3, 3), at(4, 2))},
		"in turns":                {series(at(1, 5), at(3, 4)), series(at(2, 3), at(4, 2)), series(at(1, 5), at(2, 3), at(3, 4), at(4, 2))},
		"one inside the other":    {series(at(1, 5), at(4, 4)), series(at(2, 3), at(3, 2)), series(at(1, 5), at(2, 3), at(3, 2), at(4, 4))},
		"the outermost times":     {series(at(math.MinInt, 1), at(math.MaxInt, 1)), series(at(math.MinInt, 2), at(0, 2)), series(at(math.MinInt, 2), at(0, 2), at(math.MaxInt, 1))},
		"times below 0":           {series(at(-1, 1)), series(at(-2, 2), at(1, 2)), series(at(-2, 2), at(-1, 1), at(1, 2))},
	} {
		joinsTo(t, name, c.a, c.b, c.want)
	}
}

func TestJoinOfSeries(t *testing.T) {
	x := api.Sample{Time: 1, Bits: 2}
	of := func(labels ...api.Label) api.Series { return api.Series{Labels: labels, Samples: []api.Sample{x}} }
	none, a, b := of(), of(api.Label{Key: "a"}), of(api.Label{Key: "b"})
	ab := of(api.Label{Key: "a"}, api.Label{Key: "b"})
	av := of(api.Label{Key: "a", Value: "v"})
	high := of(api.Label{Key: "\xff"})
	for name, c := range map[string]struct{ a, b, want []api.Series }{
		"nothing":                     {nil, []api.Series{}, nil},
		"with nothing":                {two(), nil, two()},
		"with itself":                 {two(), two(), two()},
		"the fullest with nothing":    {fullest(), nil, fullest()},
		"the fullest with itself":     {fullest(), fullest(), fullest()},
		"the fullest, a part of it":   {fullest(), fullest()[3:5], fullest()},
		"one behind the other":        {[]api.Series{none, a}, []api.Series{ab, b}, []api.Series{none, a, ab, b}},
		"in turns":                    {[]api.Series{none, ab, b}, []api.Series{a, av, high}, []api.Series{none, a, ab, av, b, high}},
		"one key, two values":         {[]api.Series{a}, []api.Series{av}, []api.Series{a, av}},
		"labels, the beginning first": {[]api.Series{ab}, []api.Series{a}, []api.Series{a, ab}},
		"no labels in both":           {[]api.Series{none, a}, []api.Series{none, b}, []api.Series{none, a, b}},
	} {
		joinsTo(t, name, c.a, c.b, c.want)
	}
}

func TestJoinLimits(t *testing.T) {
	all := fullest()
	joinsTo(t, "as many series as may be", keyed(0, 4), keyed(4, 4), keyed(0, 8))
	joinsTo(t, "as many, most in both", keyed(0, 7), keyed(1, 7), keyed(0, 8))
	refusesJoin(t, "a series too many", keyed(0, 8), keyed(8, 1), api.ErrLimit)
	refusesJoin(t, "a series too many, most in both", keyed(0, 8), keyed(1, 8), api.ErrLimit)
	refusesJoin(t, "twice too many series", keyed(0, 8), keyed(8, 8), api.ErrLimit)
	joinsTo(t, "as many samples as may be", []api.Series{of("a", run(0, 20)...)}, []api.Series{of("a", run(20, 20)...)}, []api.Series{of("a", run(0, 40)...)})
	joinsTo(t, "as many, most in both", []api.Series{of("a", run(0, 39)...)}, []api.Series{of("a", run(1, 39)...)}, []api.Series{of("a", run(0, 40)...)})
	joinsTo(t, "as many, in two series", []api.Series{of("a", run(0, 40)...)}, []api.Series{of("b", run(0, 40)...)}, []api.Series{of("a", run(0, 40)...), of("b", run(0, 40)...)})
	refusesJoin(t, "a sample too many", []api.Series{of("a", run(0, 40)...)}, []api.Series{of("a", run(40, 1)...)}, api.ErrLimit)
	refusesJoin(t, "a sample too many, most in both", []api.Series{of("a", run(0, 40)...)}, []api.Series{of("a", run(1, 40)...)}, api.ErrLimit)
	refusesJoin(t, "in the last series", all, []api.Series{{Labels: all[7].Labels, Samples: run(-1, 1)}}, api.ErrLimit)
}

func TestJoinRefuses(t *testing.T) {
	five := []api.Series{labelled(api.Label{Key: "a"}, api.Label{Key: "b"}, api.Label{Key: "c"}, api.Label{Key: "d"}, api.Label{Key: "e"})}
	beyond := map[string][]api.Series{
		"too many series": keyed(0, 9), "too many labels": five, "too many samples": {of("a", run(0, 41)...)},
	}
	bad := map[string][]api.Series{
		"no samples": {of("a")}, "one time twice": times(1, 1), "falling times": times(2, 1),
		"falling series": {of("b", at(1, 1)), of("a", at(1, 1))}, "one series twice": {of("a", at(1, 1)), of("a", at(2, 1))},
		"an empty key": {of("", at(1, 1))}, "one key twice": {labelled(api.Label{Key: "a"}, api.Label{Key: "a", Value: "b"})},
		"a long key": {of("0123456789abcdefg", at(1, 1))}, "too many series, and the last no such": append(keyed(0, 9), of("z")),
	}
	for name, b := range beyond {
		for _, other := range [][]api.Series{nil, b, two(), fullest()} {
			refusesJoin(t, name, b, other, api.ErrLimit)
		}
	}
	for name, b := range bad {
		for _, other := range [][]api.Series{nil, b, two(), fullest()} {
			refusesJoin(t, name, b, other, api.ErrBatch)
		}
		// That there is no batch is named ahead of the limits, whichever of the two it is.
		for _, other := range beyond {
			refusesJoin(t, name, b, other, api.ErrBatch)
		}
	}
}

func TestRandomJoins(t *testing.T) {
	r := rand.New(rand.NewSource(2))
	told := map[api.Errno]int{}
	for i := range 2000 {
		a, b := randomBatch(r), randomBatch(r)
		if i%4 > 0 {
			names, times := 1+r.Intn(10), 1+r.Intn(60)
			a, b = meeting(r, names, times), meeting(r, names, times)
		}
		want := modelJoin(a, b)
		told[modelLimit(want)]++
		if modelLimit(want) == api.OK {
			joinsTo(t, "random", a, b, want)
		} else {
			refusesJoin(t, "random", a, b, api.ErrLimit)
		}
	}
	if told[api.OK] < 250 || told[api.ErrLimit] < 250 {
		t.Errorf("too few of a kind to say anything: %v", told)
	}
}
