package choir_test

import (
	"math"
	"math/rand"
	"strings"
	"testing"

	"choir/api"
	"choir/choir"
)

func TestCrashKeeps(t *testing.T) {
	lasts, later := framesOf(keyed(0, 1), keyed(1, 1)), framesOf(keyed(2, 1), keyed(3, 2))
	unsafe := len(later[0]) + len(later[1])
	keeps := []int{math.MinInt, math.MaxInt, -1, unsafe + 1, 1 << 32, -1 << 32}
	for keep := range unsafe + 1 {
		keeps = append(keeps, keep)
	}
	for _, keep := range keeps {
		c := written(t, 1, keyed(0, 1), keyed(1, 1))
		answers(t, "P9: Sync", c.Sync(1), api.OK)
		c.Write(1, keyed(2, 1))
		c.Write(1, keyed(3, 2))
		answers(t, "P14: Crash", c.Crash(1, keep), api.OK)
		kept := min(max(keep, 0), unsafe)
		left := strings.Join(lasts, "") + strings.Join(later, "")[:kept]
		logs(t, "P14", c, 1, left)
		answers(t, "P15: Restart", c.Restart(1), api.OK)
		switch {
		case kept == unsafe:
			holds(t, "P15", c, 1, keyed(0, 5))
			logs(t, "P15", c, 1, left)
		case kept >= len(later[0]):
			holds(t, "P15", c, 1, keyed(0, 3))
			logs(t, "P15", c, 1, lasts[0], lasts[1], later[0])
		default:
			holds(t, "P15", c, 1, keyed(0, 2))
			logs(t, "P15", c, 1, lasts...)
		}
		answers(t, "P15: Restart of one that is up", c.Restart(1), api.ErrUp)
	}
}

// What a crash has left lasts: a second one takes none of it.
func TestWhatACrashLeavesLasts(t *testing.T) {
	a, b := keyed(0, 1), keyed(1, 1)
	c := written(t, 0, a, b)
	c.Crash(0, len(modelFrame(a))+3)
	c.Restart(0)
	c.Crash(0, 0)
	logs(t, "P14", c, 0, modelFrame(a))
	c.Restart(0)
	holds(t, "P15", c, 0, a)
	// What is written behind a cut log is found again.
	c.Write(0, b)
	c.Sync(0)
	c.Crash(0, 0)
	c.Restart(0)
	holds(t, "P15", c, 0, keyed(0, 2))
	logs(t, "P15", c, 0, framesOf(a, b)...)
}

func TestCrashLeavesTheOthers(t *testing.T) {
	c := pushed(t, keyed(0, 1), 2)
	c.Write(1, keyed(1, 1))
	messages := c.Messages()
	c.Crash(0, 0)
	underWay(t, "P14: what is under way stays", c, messages...)
	holds(t, "P14", c, 1, keyed(1, 1))
	c.Restart(0)
	holds(t, "P14", c, 0, nil)
	underWay(t, "P15", c, messages...)
}

func TestRestartOfNothing(t *testing.T) {
	c := choir.New()
	answers(t, "P14: Crash", c.Crash(2, 5), api.OK)
	answers(t, "P14: Crash of one that is down", c.Crash(2, 5), api.ErrDown)
	logs(t, "P14", c, 2)
	answers(t, "P15: Restart", c.Restart(2), api.OK)
	holds(t, "P15", c, 2, nil)
	answers(t, "P15: it is written to again", c.Write(2, keyed(0, 1)), api.OK)
	holds(t, "P15", c, 2, keyed(0, 1))
}

// A log of more frames than fit beside each other as batches, all joined again.
func TestRestartJoinsAll(t *testing.T) {
	c := choir.New()
	var want []api.Series
	for i := range 300 {
		b := []api.Series{of(string(rune('a'+i%8)), at(i%40, uint64(i)))}
		c.Write(0, b)
		want = modelJoin(want, b)
	}
	c.Crash(0, math.MaxInt)
	c.Restart(0)
	holds(t, "P15", c, 0, want)
}

// includes: nothing of b is missing in a.
func includes(a, b []api.Series) bool { return same(modelJoin(a, b), a) }

func all(c *choir.Cluster, r int) []api.Series {
	b, _ := c.Query(r, math.MinInt, math.MaxInt)
	return b
}

func TestSyncedAndCompactedOutlastCrashes(t *testing.T) {
	r := rand.New(rand.NewSource(5))
	lost := 0
	for range 200 {
		c := choir.New()
		var kept, had []api.Series
		for range 30 {
			switch r.Intn(6) {
			case 0, 1, 2:
				c.Write(0, meeting(r, 4, 12))
			case 3:
				c.Sync(0)
				kept = all(c, 0)
			case 4:
				c.Compact(0)
				kept = all(c, 0)
			case 5:
				had = all(c, 0)
				c.Crash(0, r.Intn(200)-50)
				c.Restart(0)
			}
			now := all(c, 0)
			if !includes(now, kept) {
				t.Fatalf("P18: of %v there is left %v", kept, now)
			}
			if !includes(now, had) {
				lost++
			}
		}
	}
	if lost < 100 {
		t.Errorf("only %d times something was lost that did not last", lost)
	}
}
