package choir_test

import (
	"math"
	"strings"
	"testing"

	"choir/api"
	"choir/choir"
)

// none: numbers of which there is no replica, and no message either in a cluster where nothing is under way.
func none() []int {
	return []int{-1, 3, 4, -2, -3, 1 << 32, 1<<32 | 1, -1 << 32, math.MaxInt, math.MinInt}
}

func answers(t *testing.T, what string, got, want api.Errno) {
	t.Helper()
	if got != want {
		t.Errorf("%s: %d, want %d", what, got, want)
	}
}

// written: a cluster whose replica r has taken these, one after the other.
func written(t *testing.T, r int, batches ...[]api.Series) *choir.Cluster {
	t.Helper()
	c := choir.New()
	for _, b := range batches {
		answers(t, "P8: Write", c.Write(r, b), api.OK)
	}
	return c
}

func holds(t *testing.T, what string, c *choir.Cluster, r int, want []api.Series) {
	t.Helper()
	if got, e := c.Query(r, math.MinInt, math.MaxInt); e != api.OK || !same(got, want) {
		t.Errorf("%s: replica %d has %v, %d, want %v", what, r, got, e, want)
	}
}

func logs(t *testing.T, what string, c *choir.Cluster, r int, want ...string) {
	t.Helper()
	if got, e := c.Log(r); e != api.OK || got != strings.Join(want, "") {
		t.Errorf("%s: the log of %d is %x, %d, want %x", what, r, got, e, want)
	}
}

func TestNewCluster(t *testing.T) {
	for name, c := range map[string]*choir.Cluster{"New": choir.New(), "the zero value": {}} {
		for r := range 3 {
			holds(t, "P7: "+name, c, r, nil)
			logs(t, "P7: "+name, c, r)
			answers(t, "P7: "+name+": Restart", c.Restart(r), api.ErrUp)
		}
		if l := c.Messages(); len(l) != 0 {
			t.Errorf("P7: %s: %v is under way", name, l)
		}
	}
}

// ofReplica: what each call of a replica answers, a fitting answer beside an error left out.
func ofReplica(t *testing.T, c *choir.Cluster, r int) map[string]api.Errno {
	t.Helper()
	b, q := c.Query(r, math.MinInt, math.MaxInt)
	has, h := c.Has(r, api.Label{Key: "a"})
	if q != api.OK && len(b) != 0 || h != api.OK && has {
		t.Errorf("P1: %v, %v beside an error", b, has)
	}
	return map[string]api.Errno{
		"Query": q, "Has": h, "Write": c.Write(r, keyed(0, 1)), "Write of nothing": c.Write(r, nil),
		"Write of no batch": c.Write(r, []api.Series{{}}), "Write beyond limits": c.Write(r, keyed(0, 9)),
		"Sync": c.Sync(r), "Compact": c.Compact(r), "Push": c.Push(r, 0), "Push to none": c.Push(r, 3), "Push to itself": c.Push(r, r),
		"Crash": c.Crash(r, 0),
	}
}

func TestNoSuchReplica(t *testing.T) {
	c := written(t, 0, keyed(0, 2))
	before := seen(c)
	for _, r := range none() {
		for call, e := range ofReplica(t, c, r) {
			answers(t, "P7: "+call, e, api.ErrReplica)
		}
		s, e := c.Log(r)
		if s != "" || e != api.ErrReplica {
			t.Errorf("P7: Log(%d): %x, %d", r, s, e)
		}
		answers(t, "P15: Restart", c.Restart(r), api.ErrReplica)
	}
	unchanged(t, c, before)
}

func TestReplicaThatIsDown(t *testing.T) {
	for r := range 3 {
		c := written(t, r, keyed(0, 2))
		c.Sync(r)
		answers(t, "P14: Crash", c.Crash(r, 0), api.OK)
		before := seen(c)
		for call, e := range ofReplica(t, c, r) {
			answers(t, "P7: "+call, e, api.ErrDown)
		}
		unchanged(t, c, before)
		logs(t, "P10", c, r, modelFrame(keyed(0, 2)))
		for other := range 3 {
			if other != r {
				answers(t, "P7: Write to another", c.Write(other, keyed(1, 1)), api.OK)
			}
		}
	}
}

func TestWriteJoinsAndLogs(t *testing.T) {
	a, b := []api.Series{of("a", at(1, 5), at(3, 6))}, []api.Series{of("a", at(1, 4), at(3, 7)), of("b", at(9, 9))}
	c := written(t, 1, a, b)
	want := []api.Series{of("a", at(1, 5), at(3, 7)), of("b", at(9, 9))}
	holds(t, "P8", c, 1, want)
	logs(t, "P8", c, 1, framesOf(a, b)...)
	// The whole of b stands in the log, also what the replica had already; but nothing that changes nothing.
	for _, same := range [][]api.Series{nil, {}, a, b, want, {of("a", at(1, 1))}, {of("b", at(9, 9))}, {of("b", at(9, 0))}} {
		answers(t, "P8: Write of nothing new", c.Write(1, same), api.OK)
		holds(t, "P8", c, 1, want)
		logs(t, "P8", c, 1, framesOf(a, b)...)
	}
	for _, other := range []int{0, 2} {
		holds(t, "P8", c, other, nil)
		logs(t, "P8", c, other)
	}
}

func TestWriteChangesByTheLeast(t *testing.T) {
	first := []api.Series{{Samples: run(0, 2)}, of("a", at(1, 5))}
	for name, next := range map[string][]api.Series{
		"a greater Bits":      {of("a", at(1, 6))},
		"the greatest Bits":   {of("a", at(1, math.MaxUint64))},
		"a sample of Bits 0":  {of("a", at(2, 0))},
		"a sample ahead":      {of("a", at(math.MinInt, 0))},
		"a series":            {of("b", at(1, 5))},
		"another value":       {labelled(api.Label{Key: "a", Value: "a"})},
		"no labels, a sample": {{Samples: run(2, 1)}},
	} {
		c := written(t, 0, first, next)
		holds(t, "P8: "+name, c, 0, modelJoin(first, next))
		logs(t, "P8: "+name, c, 0, framesOf(first, next)...)
	}
}

func TestWriteRefuses(t *testing.T) {
	bad := append(keyed(0, 9), of("z"))
	five := []api.Series{labelled(api.Label{Key: "a"}, api.Label{Key: "b"}, api.Label{Key: "c"}, api.Label{Key: "d"}, api.Label{Key: "e"})}
	full := keyed(0, 8)
	full[0].Samples = run(0, 40)
	c := written(t, 0, full)
	for name, x := range map[string]struct {
		b    []api.Series
		want api.Errno
	}{
		"no samples":                   {[]api.Series{of("a")}, api.ErrBatch},
		"falling times":                {times(2, 1), api.ErrBatch},
		"an empty key":                 {[]api.Series{of("", at(1, 1))}, api.ErrBatch},
		"a long key":                   {[]api.Series{of("0123456789abcdefg", at(1, 1))}, api.ErrBatch},
		"one series twice":             {[]api.Series{of("a", at(1, 1)), of("a", at(2, 1))}, api.ErrBatch},
		"too many, and one is none":    {bad, api.ErrBatch},
		"too many series":              {keyed(0, 9), api.ErrLimit},
		"too many labels":              {five, api.ErrLimit},
		"too many samples":             {[]api.Series{of("a", run(0, 41)...)}, api.ErrLimit},
		"too many series of both":      {keyed(8, 1), api.ErrLimit},
		"too many samples of both":     {[]api.Series{of("a", at(40, 1))}, api.ErrLimit},
		"a good one, and one too many": {[]api.Series{of("a", at(0, 9)), of("z", at(0, 1))}, api.ErrLimit},
	} {
		before := seen(c)
		answers(t, "P8: "+name, c.Write(0, x.b), x.want)
		unchanged(t, c, before)
	}
	answers(t, "P8: at the limits", c.Write(0, []api.Series{of("a", at(0, 9)), of("h", run(0, 40)...)}), api.OK)
}

func TestQueryFromTo(t *testing.T) {
	b := []api.Series{
		{Samples: []api.Sample{at(math.MinInt, 1), at(-1, 2), at(0, 3), at(math.MaxInt, 4)}},
		of("a", at(5, 5), at(7, 7)),
		of("b", at(6, 6)),
	}
	c := written(t, 2, b)
	nameless := func(samples ...api.Sample) api.Series { return api.Series{Samples: samples} }
	for _, x := range []struct {
		from, to int
		want     []api.Series
	}{
		{math.MinInt, math.MaxInt, b},
		{math.MinInt, math.MinInt, []api.Series{nameless(at(math.MinInt, 1))}},
		{math.MaxInt, math.MaxInt, []api.Series{nameless(at(math.MaxInt, 4))}},
		{math.MinInt + 1, math.MaxInt - 1, []api.Series{nameless(at(-1, 2), at(0, 3)), b[1], b[2]}},
		{-1, 0, []api.Series{nameless(at(-1, 2), at(0, 3))}},
		{5, 7, []api.Series{b[1], b[2]}},
		{6, 6, []api.Series{b[2]}},
		{6, 7, []api.Series{of("a", at(7, 7)), b[2]}},
		{5, 6, []api.Series{of("a", at(5, 5)), b[2]}},
		{1, 4, nil},
		{8, math.MaxInt - 1, nil},
		{7, 5, nil},
		{0, -1, nil},
		{math.MaxInt, math.MinInt, nil},
	} {
		if got, e := c.Query(2, x.from, x.to); e != api.OK || !same(got, x.want) {
			t.Errorf("P10: Query from %d to %d: %v, %d, want %v", x.from, x.to, got, e, x.want)
		}
	}
}

func TestHasLabels(t *testing.T) {
	b := []api.Series{
		labelled(),
		labelled(api.Label{Key: "a", Value: "x"}, api.Label{Key: "b"}),
		labelled(api.Label{Key: "a", Value: "y"}, api.Label{Key: "c", Value: "a"}, api.Label{Key: "d"}, api.Label{Key: "last", Value: "one"}),
		labelled(api.Label{Key: "shared", Value: "s"}),
		labelled(api.Label{Key: "shared", Value: "s"}, api.Label{Key: "t"}),
		labelled(api.Label{Key: "shared", Value: "s"}, api.Label{Key: "u"}),
	}
	c := written(t, 0, b)
	for l, want := range map[api.Label]bool{
		{Key: "a", Value: "x"}: true, {Key: "a", Value: "y"}: true, {Key: "b"}: true, {Key: "last", Value: "one"}: true, {Key: "shared", Value: "s"}: true, {Key: "u"}: true,
		{Key: "a"}: false, {Key: "x", Value: "a"}: false, {Key: "b", Value: "x"}: false, {Key: "c", Value: "y"}: false, {}: false, {Key: "A", Value: "x"}: false,
		{Key: "a", Value: "x\x00"}: false, {Key: strings.Repeat("a", 1000)}: false, {Key: "", Value: "x"}: false, {Key: "d", Value: "one"}: false,
	} {
		for range 50 {
			if got, e := c.Has(0, l); got != want || e != api.OK {
				t.Fatalf("P10: Has %q: %v, %d", l, got, e)
			}
		}
		if got, e := c.Has(1, l); got || e != api.OK {
			t.Errorf("P10: a replica without series has %q: %d", l, e)
		}
	}
	// It is what the replica has that is asked, not what its log tells.
	c.Compact(0)
	if got, _ := c.Has(0, api.Label{Key: "u"}); !got {
		t.Error("P10: lost by Compact")
	}
}

func TestCompact(t *testing.T) {
	c := written(t, 0, keyed(2, 3), keyed(0, 4), []api.Series{of("a", at(0, 7), at(1, 1))})
	want := modelJoin(keyed(0, 5), []api.Series{of("a", at(0, 7), at(1, 1))})
	for range 2 {
		answers(t, "P11: Compact", c.Compact(0), api.OK)
		holds(t, "P11", c, 0, want)
		logs(t, "P11", c, 0, modelFrame(want))
	}
	answers(t, "P8: Write", c.Write(0, keyed(5, 1)), api.OK)
	logs(t, "P11: written behind", c, 0, modelFrame(want), modelFrame(keyed(5, 1)))
	answers(t, "P11: Compact of nothing", c.Compact(1), api.OK)
	logs(t, "P11: nothing", c, 1)
}
