package choir_test

import (
	"math"
	"slices"
	"testing"

	"choir/api"
	"choir/choir"
)

func underWay(t *testing.T, what string, c *choir.Cluster, want ...api.Message) {
	t.Helper()
	if got := c.Messages(); !slices.Equal(got, want) {
		t.Errorf("%s: under way is %v, want %v", what, got, want)
	}
}

// pushed: a cluster whose replica 0 has b and has pushed it so many times, to 1.
func pushed(t *testing.T, b []api.Series, count int) *choir.Cluster {
	t.Helper()
	c := written(t, 0, b)
	for range count {
		answers(t, "P12: Push", c.Push(0, 1), api.OK)
	}
	return c
}

func TestPush(t *testing.T) {
	a, b := keyed(0, 1), keyed(1, 1)
	c := written(t, 0, a)
	for _, to := range append(none(), 0) {
		before := seen(c)
		answers(t, "P12: Push to none or itself", c.Push(0, to), api.ErrArg)
		unchanged(t, c, before)
	}
	c.Push(0, 2)
	c.Write(0, b)
	c.Push(0, 1)
	c.Push(1, 0)
	first := api.Message{From: 0, To: 2, Bytes: modelFrame(a)}
	second := api.Message{From: 0, To: 1, Bytes: modelFrame(keyed(0, 2))}
	third := api.Message{From: 1, To: 0, Bytes: modelFrame(nil)}
	underWay(t, "P12", c, first, second, third)
	logs(t, "P12: a push writes no log", c, 0, framesOf(a, b)...)
	c.Crash(2, 0)
	answers(t, "P12: Push to one that is down", c.Push(1, 2), api.OK)
	underWay(t, "P12", c, first, second, third, api.Message{From: 1, To: 2, Bytes: modelFrame(nil)})
}

func TestMostMessages(t *testing.T) {
	c := pushed(t, keyed(0, 1), api.MaxMessages-1)
	c.Write(0, keyed(1, 1))
	answers(t, "P13: Twice", c.Twice(0), api.OK)
	before := seen(c)
	if n := len(c.Messages()); n != api.MaxMessages {
		t.Fatalf("P13: %d messages", n)
	}
	answers(t, "P12: Push that is lost", c.Push(0, 2), api.OK)
	answers(t, "P13: Twice that is lost", c.Twice(29), api.OK)
	answers(t, "P12: Push to none, nothing would be put", c.Push(0, 3), api.ErrArg)
	answers(t, "P13: Twice of none", c.Twice(30), api.ErrMessage)
	unchanged(t, c, before)
	c.Drop(0)
	c.Push(0, 2)
	if l := c.Messages(); len(l) != 30 || l[29] != (api.Message{From: 0, To: 2, Bytes: modelFrame(keyed(0, 2))}) {
		t.Errorf("P12: %v", l)
	}
}

func TestNoSuchMessage(t *testing.T) {
	for count := range 3 {
		c := pushed(t, keyed(0, 1), count)
		before := seen(c)
		for _, i := range []int{-1, count, count + 1, 1 << 32, math.MaxInt, math.MinInt} {
			for call, e := range map[string]api.Errno{
				"Deliver": c.Deliver(i), "Drop": c.Drop(i), "Twice": c.Twice(i), "Spoil": c.Spoil(i, 0, 1), "Spoil by 0": c.Spoil(i, -1, 0),
			} {
				answers(t, "P13: "+call, e, api.ErrMessage)
			}
		}
		unchanged(t, c, before)
	}
}

func TestDeliver(t *testing.T) {
	a, b := []api.Series{of("a", at(1, 5))}, []api.Series{of("a", at(1, 9), at(2, 1)), of("b", at(1, 1))}
	c := pushed(t, a, 1)
	c.Write(1, b)
	c.Push(1, 2)
	answers(t, "P13: Deliver", c.Deliver(1), api.OK)
	holds(t, "P13", c, 2, b)
	logs(t, "P13: as a Write", c, 2, modelFrame(b))
	underWay(t, "P13: the other one stays", c, api.Message{From: 0, To: 1, Bytes: modelFrame(a)})
	answers(t, "P13: Deliver of nothing new", c.Deliver(0), api.OK)
	holds(t, "P13", c, 1, b)
	logs(t, "P13: nothing new", c, 1, modelFrame(b))
	underWay(t, "P13", c)
	c.Push(1, 0)
	c.Deliver(0)
	holds(t, "P13", c, 0, b)
	logs(t, "P13", c, 0, framesOf(a, b)...)
}

// What is received does not last until it is synced.
func TestDeliveredIsNotYetLasting(t *testing.T) {
	c := pushed(t, keyed(0, 1), 1)
	c.Deliver(0)
	c.Crash(1, 0)
	c.Restart(1)
	holds(t, "P14", c, 1, nil)
}

func TestDeliverBeyondLimits(t *testing.T) {
	for name, x := range map[string][2][]api.Series{
		"series":  {keyed(0, 8), keyed(7, 2)},
		"samples": {[]api.Series{of("a", run(0, 40)...)}, []api.Series{of("a", at(0, 9), at(40, 1))}},
	} {
		c := written(t, 0, x[1])
		c.Write(1, x[0])
		c.Push(0, 1)
		answers(t, "P13: Deliver beyond limits", c.Deliver(0), api.OK)
		underWay(t, "P13: "+name, c)
		holds(t, "P13: "+name, c, 1, x[0])
		logs(t, "P13: "+name, c, 1, modelFrame(x[0]))
	}
}

func TestDeliverToOneThatIsDown(t *testing.T) {
	c := pushed(t, keyed(0, 1), 2)
	c.Crash(1, 0)
	answers(t, "P13: Deliver", c.Deliver(0), api.OK)
	logs(t, "P13", c, 1)
	if n := len(c.Messages()); n != 1 {
		t.Errorf("P13: %d messages", n)
	}
	c.Restart(1)
	holds(t, "P13", c, 1, nil)
	// What was sent to one that was down then is received by one that is up now, also if the sender is down.
	c.Crash(0, 0)
	answers(t, "P13: Deliver", c.Deliver(0), api.OK)
	holds(t, "P13", c, 1, keyed(0, 1))
}

func TestDropAndTwiceKeepTheOrder(t *testing.T) {
	c := choir.New()
	var want []api.Message
	for i := range 5 {
		c.Write(0, keyed(i, 1))
		c.Push(0, 1+i%2)
		want = append(want, api.Message{From: 0, To: 1 + i%2, Bytes: modelFrame(keyed(0, i+1))})
	}
	underWay(t, "P13", c, want...)
	answers(t, "P13: Twice", c.Twice(1), api.OK)
	want = append(want, want[1])
	underWay(t, "P13: Twice", c, want...)
	for _, i := range []int{2, 0, 3, 1, 1, 0} {
		answers(t, "P13: Drop", c.Drop(i), api.OK)
		want = slices.Delete(want, i, i+1)
		underWay(t, "P13: Drop", c, want...)
	}
	for r := range 3 {
		if r > 0 {
			holds(t, "P13: Drop", c, r, nil)
		}
	}
}

func TestSpoilTurnsBits(t *testing.T) {
	s := modelFrame(keyed(0, 1))
	bits := 8 * len(s)
	for _, at := range []int{0, 1, 7, 8, 20, bits - 33, bits - 32, bits - 31, bits - 9, bits - 8, bits - 1} {
		for _, mask := range []int{1, 2, 0x80000000, 0xFFFFFFFF, -1, 1<<32 | 1, math.MinInt | 5, math.MaxInt, 0x82F63B78} {
			c := pushed(t, keyed(0, 1), 2)
			answers(t, "P13: Spoil", c.Spoil(0, at, mask), api.OK)
			want, some := turned(s, at, uint32(mask&0xFFFFFFFF))
			underWay(t, "P13: Spoil", c, api.Message{From: 0, To: 1, Bytes: want}, api.Message{From: 0, To: 1, Bytes: s})
			answers(t, "P13: Spoil twice", c.Spoil(0, at, mask), api.ErrMessage)
			c.Deliver(0)
			if some {
				holds(t, "P17: spoilt", c, 1, nil)
				logs(t, "P17: spoilt", c, 1)
			} else {
				holds(t, "P13: no bit turned", c, 1, keyed(0, 1))
			}
		}
	}
}

// The numbering written out, so that not both it and what it is held against can be wrong.
func TestSpoilCountsFromTheLowestBit(t *testing.T) {
	c := pushed(t, nil, 3)
	c.Spoil(0, 0, 1)
	c.Spoil(1, 7, 3)
	c.Spoil(2, 16, 1<<31)
	s := modelFrame(nil)
	for i, want := range []string{"\x42" + s[1:], "\xc3\x49" + s[2:], s[:5] + "\x80" + s[6:]} {
		if got := c.Messages()[i].Bytes; got != want {
			t.Errorf("P13: message %d is %x, want %x", i, got, want)
		}
	}
}

func TestSpoilRefuses(t *testing.T) {
	c := pushed(t, keyed(0, 1), 1)
	bits := 8 * len(modelFrame(keyed(0, 1)))
	before := seen(c)
	for _, x := range [][2]int{
		{-1, 1}, {bits, 1}, {bits + 1, 1}, {math.MinInt, 1}, {math.MaxInt, 1}, {bits + 1<<32, 1},
		{0, 0}, {0, 1 << 32}, {0, -1 << 32}, {0, math.MinInt}, {bits - 1, 3 << 32}, {-1, 0},
	} {
		answers(t, "P13: Spoil", c.Spoil(0, x[0], x[1]), api.ErrArg)
		unchanged(t, c, before)
	}
	answers(t, "P13: a refused one has spoilt nothing", c.Spoil(0, bits-1, 1), api.OK)
	for _, x := range [][2]int{{0, 1}, {-1, 1}, {0, 0}, {bits - 1, 1}} {
		answers(t, "P13: spoilt already", c.Spoil(0, x[0], x[1]), api.ErrMessage)
	}
}

// Spoilt by bits that it does not have: it is as it was, and spoilt nevertheless; and so are copies of it.
func TestSpoiltWithoutATurn(t *testing.T) {
	c := pushed(t, keyed(0, 1), 1)
	s := modelFrame(keyed(0, 1))
	answers(t, "P13: Spoil", c.Spoil(0, 8*len(s)-1, 0xFFFFFFFE), api.OK)
	c.Twice(0)
	underWay(t, "P13", c, api.Message{From: 0, To: 1, Bytes: s}, api.Message{From: 0, To: 1, Bytes: s})
	for i := range 2 {
		answers(t, "P13: Spoil again", c.Spoil(i, 0, 1), api.ErrMessage)
	}
	c.Deliver(1)
	holds(t, "P13: still a frame", c, 1, keyed(0, 1))
}

func TestCopiesOfSpoiltMessages(t *testing.T) {
	c := pushed(t, keyed(0, 1), 1)
	c.Twice(0) // 1: of one that is whole
	c.Spoil(0, 3, 1)
	c.Twice(0) // 2: of a spoilt one
	c.Twice(2) // 3: a copy of a copy of it
	c.Twice(1) // 4: of the whole one
	s := modelFrame(keyed(0, 1))
	x, _ := turned(s, 3, 1)
	var want []api.Message
	for _, bytes := range []string{x, s, x, x, s} {
		want = append(want, api.Message{From: 0, To: 1, Bytes: bytes})
	}
	underWay(t, "P13", c, want...)
	for i, e := range []api.Errno{api.ErrMessage, api.OK, api.ErrMessage, api.ErrMessage, api.OK} {
		answers(t, "P13: Spoil", c.Spoil(i, 3, 1), e)
	}
	// That one is spoilt goes with it, not with its place.
	c = pushed(t, keyed(0, 1), 3)
	c.Spoil(1, 3, 1)
	c.Drop(0)
	answers(t, "P13: moved up", c.Spoil(0, 3, 1), api.ErrMessage)
	answers(t, "P13: moved up behind it", c.Spoil(1, 3, 1), api.OK)
	c.Drop(0)
	c.Drop(0)
	c.Push(0, 1)
	answers(t, "P13: a new one in its place", c.Spoil(0, 3, 1), api.OK)
}
