package replica

import (
	"strings"
	"testing"
	"testing/synctest"

	"choir/api"
)

func holding(t *testing.T, labels ...[]api.Label) *Replica {
	t.Helper()
	var b []api.Series
	for _, l := range labels {
		b = append(b, api.Series{Labels: l, Samples: []api.Sample{{Time: 1}}})
	}
	r := &Replica{}
	if e := r.Write(b); e != api.OK {
		t.Fatalf("Write: %d", e)
	}
	return r
}

func shared() api.Label { return api.Label{Key: "a", Value: "shared"} }

// sharing: all its series have one label in common, and one each of their own.
func sharing(t *testing.T) *Replica {
	t.Helper()
	var labels [][]api.Label
	for i := range api.MaxSeries {
		labels = append(labels, []api.Label{shared(), {Key: "b", Value: string(rune('a' + i))}})
	}
	return holding(t, labels...)
}

// Two that find it at the same time must not both close done; it takes many tries to see them do so.
func TestOnlyTheFirstCloses(t *testing.T) {
	r := sharing(t)
	for range 20000 {
		if !r.Has(shared()) {
			t.Fatal("P10: it is not found")
		}
	}
}

// A goroutine that were left waiting would fail the bubble.
func TestHasLeavesNoGoroutine(t *testing.T) {
	r := sharing(t)
	for _, l := range []api.Label{shared(), {Key: "b", Value: "a"}, {Key: "b", Value: "h"}, {Key: "b"}} {
		for range 200 {
			synctest.Test(t, func(t *testing.T) {
				if got := r.Has(l); got != (l.Value != "") {
					t.Errorf("P10: Has %v: %v", l, got)
				}
			})
		}
	}
}

func TestSearchStopsWhenDone(t *testing.T) {
	l := api.Label{Key: "a"}
	done := make(chan struct{})
	if !hasLabel([]api.Label{l}, l, done) || isClosed(done) {
		t.Error("it is not found, or what is found is done already")
	}
	close(done)
	if hasLabel([]api.Label{l}, l, done) || !isClosed(done) {
		t.Error("it is looked for though another has found it")
	}
}

func TestLogGrows(t *testing.T) {
	var l, empty log
	want := ""
	for i := range 50 {
		before, text := l, l.String()
		bytes := strings.Repeat("x", i%7) + string(rune('a'+i%26))
		l = l.with(bytes)
		want += bytes
		other := before.with("other")
		if l.String() != want || l.size != len(want) || before.String() != text || other.String() != text+"other" {
			t.Fatalf("%q of %d bytes, want %q", l, l.size, want)
		}
	}
	if empty.String() != "" || empty.with("").String() != "" {
		t.Error("a log of nothing")
	}
}

// One that is down has nothing that its log does not tell.
func TestCrashKeepsOnlyTheLog(t *testing.T) {
	r := holding(t, []api.Label{{Key: "a"}})
	r.Crash(5)
	if r.IsUp() || r.series != nil || r.log.size != 5 || r.lasting != 5 {
		t.Errorf("P14: %+v", r)
	}
	before := *r
	r.Receive(holding(t, []api.Label{{Key: "b"}}).Frame())
	if r.series != nil || r.log != before.log {
		t.Errorf("P13: one that is down has received: %+v", r)
	}
}
