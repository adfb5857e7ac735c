package choir_test

import (
	"fmt"
	"math"
	"testing"
	"unsafe"

	"choir/api"
	"choir/choir"
)

// seen: all that can be asked of a cluster, as a text.
func seen(c *choir.Cluster) string {
	out := fmt.Sprintf("%#v", c.Messages())
	for r := range 3 {
		b, e := c.Query(r, math.MinInt, math.MaxInt)
		s, f := c.Log(r)
		out += fmt.Sprintf(" %d: %#v %d %q %d", r, b, e, s, f)
	}
	return out
}

func unchanged(t *testing.T, c *choir.Cluster, before string) {
	t.Helper()
	if after := seen(c); after != before {
		t.Errorf("P1: what was %s is %s", before, after)
	}
}

func TestNilCluster(t *testing.T) {
	var c *choir.Cluster
	if l := c.Messages(); len(l) != 0 {
		t.Errorf("P1: Messages of a nil cluster: %v", l)
	}
	for _, n := range append(none(), 0, 1, 2) {
		b, q := c.Query(n, math.MinInt, math.MaxInt)
		has, h := c.Has(n, api.Label{Key: "a"})
		s, l := c.Log(n)
		if len(b) != 0 || has || s != "" {
			t.Errorf("P1: %v, %v, %x of a nil cluster", b, has, s)
		}
		for call, e := range map[string]api.Errno{
			"Query": q, "Has": h, "Log": l, "Write": c.Write(n, two()), "Write of no batch": c.Write(n, []api.Series{{}}), "Sync": c.Sync(n), "Compact": c.Compact(n),
			"Push": c.Push(n, 1), "Push to itself": c.Push(n, n), "Deliver": c.Deliver(n), "Drop": c.Drop(n), "Twice": c.Twice(n), "Spoil": c.Spoil(n, 0, 1), "Spoil by 0": c.Spoil(n, -1, 0),
			"Crash": c.Crash(n, 0), "Restart": c.Restart(n),
		} {
			answers(t, "P1: a nil cluster: "+call, e, api.ErrReplica)
		}
	}
}

func TestWriteKeepsNothing(t *testing.T) {
	for _, b := range [][]api.Series{two(), fullest(), keyed(0, 3)} {
		given := roomy(b)
		c := written(t, 0, given)
		before := seen(c)
		c.Write(0, given)
		if !same(given, b) {
			t.Errorf("P2: %v has become %v", b, given)
		}
		unspoilt(t, given)
		overwrite(given)
		unchanged(t, c, before)
		holds(t, "P2", c, 0, b)
	}
	bad := roomy(append(two(), api.Series{}))
	choir.New().Write(0, bad)
	unspoilt(t, bad)
}

func TestQueriedIsNewMemory(t *testing.T) {
	for _, want := range [][]api.Series{two(), fullest()} {
		c := written(t, 0, want)
		before := seen(c)
		for i := range want {
			got, _ := c.Query(0, math.MinInt, math.MaxInt)
			other, _ := c.Query(0, math.MinInt, math.MaxInt)
			overwrite(other)
			unchanged(t, c, before)
			if !same(got, want) {
				t.Fatalf("P2: one answer changes another: %v", got)
			}
			standsAlone(t, got, want, i)
			unchanged(t, c, before)
		}
	}
}

func TestMessagesIsNewMemory(t *testing.T) {
	c := written(t, 0, two())
	for range 3 {
		c.Push(0, 1)
	}
	before := seen(c)
	l := c.Messages()
	clear(l[:cap(l)])
	unchanged(t, c, before)
	l = c.Messages()
	c.Spoil(0, 0, 1)
	c.Drop(1)
	if len(l) != 3 || l[0].Bytes != modelFrame(two()) || l[1].Bytes != modelFrame(two()) {
		t.Errorf("P2: what was told before is now %v", l)
	}
}

// The texts of an answer are new memory too.
func TestToldTextsAreNew(t *testing.T) {
	c := written(t, 0, keyed(0, 1))
	a, b := all(c, 0)[0].Labels[0].Key, all(c, 0)[0].Labels[0].Key
	s, _ := c.Log(0)
	x, _ := c.Log(0)
	if unsafe.StringData(a) == unsafe.StringData(b) || unsafe.StringData(s) == unsafe.StringData(x) {
		t.Error("P2: two answers share a text")
	}
}

// What was told of a log stays as it was.
func TestToldLogStays(t *testing.T) {
	c := written(t, 0, two())
	before, _ := c.Log(0)
	c.Write(0, keyed(0, 3))
	c.Crash(0, 5)
	c.Restart(0)
	c.Write(0, keyed(3, 1))
	if before != modelFrame(two()) {
		t.Errorf("P2: what was told before is now %x", before)
	}
}

func TestOneClusterDoesNotChangeAnother(t *testing.T) {
	c, d := written(t, 0, two()), choir.New()
	c.Push(0, 1)
	before := seen(d)
	c.Write(0, keyed(0, 1))
	c.Push(0, 2)
	c.Deliver(0)
	c.Crash(1, 0)
	unchanged(t, d, before)
	if choir.New() == choir.New() {
		t.Error("P2: two clusters are one")
	}
}

// A copy of a cluster is another cluster, whichever of the two goes on.
func TestCopiedCluster(t *testing.T) {
	c := written(t, 0, two(), keyed(0, 1), keyed(1, 1))
	for range 5 {
		c.Push(0, 1)
	}
	copied := *c
	d := &copied
	turn := func(c *choir.Cluster, key int) {
		c.Write(0, keyed(key, 1))
		c.Drop(1)
		c.Spoil(0, key, 1)
		c.Push(0, 2)
		c.Deliver(2)
	}
	before := seen(d)
	turn(c, 2)
	unchanged(t, d, before)
	before = seen(c)
	turn(d, 3)
	unchanged(t, c, before)
	logs(t, "P2", c, 0, framesOf(two(), keyed(0, 1), keyed(1, 1), keyed(2, 1))...)
	logs(t, "P2", d, 0, framesOf(two(), keyed(0, 1), keyed(1, 1), keyed(3, 1))...)
}

// The same calls have the same answers, however its goroutines run.
func TestSameCallsSameAnswers(t *testing.T) {
	for seed := range int64(5) {
		var all [2]string
		for i := range all {
			w := newWalk(t, seed, map[string]int{})
			for range 100 {
				w.step()
				all[i] += seen(w.cluster)
			}
		}
		if all[0] != all[1] {
			t.Fatalf("P2: %s and %s", all[0], all[1])
		}
	}
}
