package choir_test

import (
	"math/rand"
	"testing"

	"choir/api"
	"choir/choir"
)

// tellAll: each pushes to each other one, and all is delivered, in any order.
func tellAll(r *rand.Rand, c *choir.Cluster) {
	for _, way := range r.Perm(9) {
		if from, to := way/3, way%3; from != to {
			c.Push(from, to)
		}
	}
	for left := len(c.Messages()); left > 0; left-- {
		c.Deliver(r.Intn(left))
	}
}

func level(t *testing.T, c *choir.Cluster, want []api.Series) {
	t.Helper()
	for r := range 3 {
		holds(t, "P19", c, r, want)
		answers(t, "P11: Compact", c.Compact(r), api.OK)
		logs(t, "P19: compacted", c, r, framesUnlessNone(want)...)
	}
}

func framesUnlessNone(b []api.Series) []string {
	if len(b) == 0 {
		return nil
	}
	return framesOf(b)
}

// troubled: a cluster after all kinds of trouble; then all are up and nothing is under way.
func troubled(t *testing.T, seed int64) *walk {
	w := newWalk(t, seed, map[string]int{})
	w.names, w.times = min(w.names, 8), min(w.times, 40)
	for range 60 {
		w.step()
	}
	for r := range 3 {
		w.cluster.Restart(r)
		w.model.restart(r)
	}
	for w.model.drop(0) == api.OK {
		w.cluster.Drop(0)
	}
	w.look()
	return w
}

func TestAllComeToTheSame(t *testing.T) {
	some := 0
	for seed := range int64(150) {
		w := troubled(t, seed)
		want := modelJoin(all(w.cluster, 0), all(w.cluster, 1), all(w.cluster, 2))
		if modelLimit(want) != api.OK {
			continue
		}
		if len(want) > 0 {
			some++
		}
		tellAll(w.r, w.cluster)
		tellAll(w.r, w.cluster)
		level(t, w.cluster, want)
	}
	if some < 50 {
		t.Errorf("only %d clusters that have something", some)
	}
}

// At the limits: what all have together is as much as one may have.
func TestLevelAtTheLimits(t *testing.T) {
	r := rand.New(rand.NewSource(6))
	full := fullest()
	c := choir.New()
	for i, s := range full {
		for k, x := range s.Samples {
			c.Write((i+k)%3, []api.Series{{Labels: s.Labels, Samples: []api.Sample{x}}})
		}
	}
	tellAll(r, c)
	tellAll(r, c)
	level(t, c, full)
}

// Messages are doubled and come late: nothing hangs on it.
func TestLevelWithDoubledMessages(t *testing.T) {
	r := rand.New(rand.NewSource(7))
	for range 50 {
		batches := few(r)
		c := choir.New()
		for i, b := range batches {
			c.Write(i%3, b)
		}
		for range 2 {
			for from := range 3 {
				c.Push(from, (from+1)%3)
				c.Push(from, (from+2)%3)
			}
			for i := range 6 {
				c.Twice(i)
			}
			for left := len(c.Messages()); left > 0; left-- {
				c.Deliver(r.Intn(left))
			}
		}
		level(t, c, modelJoin(batches...))
	}
}
