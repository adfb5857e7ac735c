package choir_test

import (
	"fmt"
	"math"
	"math/rand"
	"slices"
	"testing"

	"choir/api"
	"choir/choir"
)

// walk leads a cluster and the model of one through the same calls.
type walk struct {
	t       *testing.T
	r       *rand.Rand
	cluster *choir.Cluster
	model   modelCluster
	names   int
	times   int
	told    map[string]int // how often each call has answered each error
}

func newWalk(t *testing.T, seed int64, told map[string]int) *walk {
	r := rand.New(rand.NewSource(seed))
	return &walk{t: t, r: r, cluster: choir.New(), names: 1 + r.Intn(10), times: 1 + r.Intn(60), told: told}
}

func (w *walk) answered(call string, got, want api.Errno) {
	w.t.Helper()
	if got != want {
		w.t.Fatalf("%s answers %d, want %d", call, got, want)
	}
	w.told[fmt.Sprint(call, " ", want)]++
}

// replica: most often one that there is.
func (w *walk) replica() int {
	if w.r.Intn(20) == 0 {
		return []int{-1, 3, math.MaxInt, math.MinInt, 4, -3}[w.r.Intn(6)]
	}
	return w.r.Intn(3)
}

// message: most often one that there is.
func (w *walk) message() int {
	n := len(w.model.way)
	if n == 0 || w.r.Intn(20) == 0 {
		return []int{-1, n, n + 1, math.MaxInt, math.MinInt}[w.r.Intn(5)]
	}
	return w.r.Intn(n)
}

// batch: and whether it is none.
func (w *walk) batch() ([]api.Series, bool) {
	b := meeting(w.r, w.names, w.times)
	switch w.r.Intn(12) {
	case 0:
		return append(b, api.Series{Labels: []api.Label{{Key: "\xff\xff"}}}), true
	case 1:
		return append(b, labelled(api.Label{Key: "\xff\xff"}), labelled(api.Label{Key: "\xff\xff"})), true
	case 2:
		return []api.Series{of("a", run(0, 41)...)}, false
	case 3:
		return nil, false
	}
	// Few of them, so that a replica is not full too soon.
	if len(b) > 0 && w.r.Intn(3) > 0 {
		s := b[w.r.Intn(len(b))]
		s.Samples = s.Samples[:1+w.r.Intn(len(s.Samples))]
		b = []api.Series{s}
	}
	return b, false
}

func (w *walk) bit(i int) int {
	n := 8
	if i >= 0 && i < len(w.model.way) {
		n = 8 * len(w.model.way[i].Bytes)
	}
	if w.r.Intn(4) > 0 {
		return w.r.Intn(n)
	}
	return []int{0, n - 1, n, -1, n - 2, n - 31, math.MaxInt, math.MinInt}[w.r.Intn(8)]
}

func (w *walk) mask() int {
	if w.r.Intn(2) == 0 {
		return int(w.r.Uint64())
	}
	return []int{0, 1, 2, 1 << 31, 1 << 32, -1, -1 << 32, math.MinInt, math.MaxInt, 1<<32 | 1, 3 << 31}[w.r.Intn(11)]
}

func (w *walk) step() {
	c, m, r := w.cluster, &w.model, w.replica()
	i := w.message()
	switch w.r.Intn(16) {
	case 0, 1, 2:
		b, bad := w.batch()
		w.answered("Write", c.Write(r, b), m.write(r, b, bad))
	case 3:
		w.answered("Sync", c.Sync(r), m.sync(r))
	case 4:
		w.answered("Compact", c.Compact(r), m.compact(r))
	case 5, 6, 7, 8:
		to := w.replica()
		w.answered("Push", c.Push(r, to), m.push(r, to))
	case 9, 10:
		w.answered("Deliver", c.Deliver(i), m.deliver(i))
	case 11:
		w.answered("Drop", c.Drop(i), m.drop(i))
	case 12:
		w.answered("Twice", c.Twice(i), m.twice(i))
	case 13:
		at, mask := w.bit(i), w.mask()
		w.answered("Spoil", c.Spoil(i, at, mask), m.spoil(i, at, mask))
	case 14:
		keep := []int{-1, 0, 1, w.r.Intn(100), w.r.Intn(1000), math.MaxInt, math.MinInt}[w.r.Intn(7)]
		w.answered("Crash", c.Crash(r, keep), m.crash(r, keep))
	case 15:
		w.answered("Restart", c.Restart(r), m.restart(r))
	}
}

// look: all that can be seen of the cluster is what is to be seen of the model.
func (w *walk) look() {
	w.t.Helper()
	for r := range 3 {
		got, e := w.cluster.Query(r, math.MinInt, math.MaxInt)
		want, f := w.model.query(r, math.MinInt, math.MaxInt)
		if e != f || !same(got, want) {
			w.t.Fatalf("replica %d has %v, %d, want %v, %d", r, got, e, want, f)
		}
		text, e := w.cluster.Log(r)
		if wanted, f := w.model.logOf(r); e != f || text != wanted {
			w.t.Fatalf("the log of %d is %x, %d, want %x, %d", r, text, e, wanted, f)
		}
	}
	if got, want := w.cluster.Messages(), w.model.messages(); !slices.Equal(got, want) {
		w.t.Fatalf("under way is %v, want %v", got, want)
	}
}

// ask: the questions that have an argument.
func (w *walk) ask() {
	w.t.Helper()
	r, from, to := w.replica(), w.r.Intn(80)-40, w.r.Intn(80)-40
	got, e := w.cluster.Query(r, from, to)
	want, f := w.model.query(r, from, to)
	if !same(got, want) {
		w.t.Fatalf("Query(%d, %d, %d): %v, want %v", r, from, to, got, want)
	}
	w.answered("Query", e, f)
	l := []api.Label{{Key: "a"}, {Key: "a", Value: "a"}, {Key: "b"}, {Key: "b", Value: "\xff"}, {Key: "e"}, {Key: "\xff"}, {}}[w.r.Intn(7)]
	has, e := w.cluster.Has(r, l)
	wanted, f := w.model.hasLabel(r, l)
	if has != wanted {
		w.t.Fatalf("Has(%d, %q): %v", r, l, has)
	}
	w.answered("Has", e, f)
	text, e := w.cluster.Log(r)
	if e != api.OK && text != "" {
		w.t.Fatalf("Log(%d): %x beside an error", r, text)
	}
	_, f = w.model.logOf(r)
	w.answered("Log", e, f)
}

// All calls in any order (P1, P7 to P15), and each answer that the document names at least some times.
func TestWalks(t *testing.T) {
	told := map[string]int{}
	for seed := range int64(60) {
		w := newWalk(t, seed, told)
		for range 200 {
			w.step()
			w.look()
			w.ask()
		}
	}
	for call, errors := range map[string][]api.Errno{
		"Write": {0, 1, 2, 4, 5}, "Sync": {0, 4, 5}, "Query": {0, 4, 5}, "Has": {0, 4, 5}, "Log": {0, 4}, "Compact": {0, 4, 5}, "Push": {0, 4, 5, 8},
		"Deliver": {0, 7}, "Drop": {0, 7}, "Twice": {0, 7}, "Spoil": {0, 7, 8}, "Crash": {0, 4, 5}, "Restart": {0, 4, 6},
	} {
		for _, e := range errors {
			if told[fmt.Sprint(call, " ", e)] < 5 {
				t.Errorf("%s has answered %d too seldom: %v", call, e, told)
			}
		}
	}
}
