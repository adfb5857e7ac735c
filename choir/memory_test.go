package choir_test

import (
	"slices"
	"strings"
	"testing"
	"unsafe"

	"choir/api"
	"choir/choir"
)

// roomy: b with spare room behind every list, and all of that room filled.
func roomy(b []api.Series) []api.Series {
	out := make([]api.Series, 0, len(b)+3)
	for _, s := range b {
		labels := append(append([]api.Label{}, s.Labels...), api.Label{Key: "spare"}, api.Label{Key: "spare"})
		samples := append(append([]api.Sample{}, s.Samples...), api.Sample{Time: 77}, api.Sample{Time: 77})
		out = append(out, api.Series{Labels: labels[:len(s.Labels)], Samples: samples[:len(s.Samples)]})
	}
	for range 3 {
		out = append(out, api.Series{Labels: []api.Label{{Key: "spare"}}})
	}
	return out[:len(b)]
}

// unspoilt: the spare room is as roomy filled it.
func unspoilt(t *testing.T, b []api.Series) {
	t.Helper()
	for i, s := range b[:cap(b)] {
		if i >= len(b) {
			if len(s.Labels) != 1 || s.Labels[0].Key != "spare" || s.Samples != nil {
				t.Errorf("P2: the room behind the series: %v", s)
			}
			continue
		}
		for _, l := range s.Labels[len(s.Labels) : len(s.Labels)+2] {
			if l.Key != "spare" {
				t.Errorf("P2: the room behind labels: %v", l)
			}
		}
		for _, x := range s.Samples[len(s.Samples) : len(s.Samples)+2] {
			if x.Time != 77 {
				t.Errorf("P2: the room behind samples: %v", x)
			}
		}
	}
}

func TestEncodeWritesNothing(t *testing.T) {
	for _, b := range [][]api.Series{two(), fullest(), append(two(), api.Series{}), times(2, 1)} {
		given := roomy(b)
		choir.Encode(given)
		if !same(given, b) {
			t.Errorf("P2: %v has become %v", b, given)
		}
		unspoilt(t, given)
	}
}

// overwrite writes into all of a batch's lists, and into the room behind them.
func overwrite(b []api.Series) {
	for i := range b {
		labels, samples := b[i].Labels, b[i].Samples
		for k := range labels[:cap(labels)] {
			labels[:cap(labels)][k] = api.Label{Key: "over", Value: "written"}
		}
		for k := range samples[:cap(samples)] {
			samples[:cap(samples)][k] = api.Sample{Time: -99, Bits: 99}
		}
	}
	clear(b[:cap(b)])
}

// standsAlone: the lists of series i, and the room behind them, are no other list's.
func standsAlone(t *testing.T, got, want []api.Series, i int) {
	t.Helper()
	overwrite(got[i : i+1 : i+1])
	got[i] = want[i]
	if !same(got, want) {
		t.Errorf("P2: series %d shares memory with another: %v", i, got)
	}
}

func TestDecodedIsNewMemory(t *testing.T) {
	for _, want := range [][]api.Series{two(), fullest()} {
		s := modelFrame(want)
		for i := range want {
			got, _ := choir.Decode(s)
			other, _ := choir.Decode(s)
			overwrite(other)
			if !same(got, want) {
				t.Fatalf("P2: one answer changes another: %v", got)
			}
			standsAlone(t, got, want, i)
		}
		encodesTo(t, want, s)
	}
}

func TestJoinWritesNothing(t *testing.T) {
	bad := append(two(), api.Series{})
	for _, c := range [][2][]api.Series{{two(), two()}, {two(), keyed(0, 3)}, {fullest(), fullest()}, {fullest(), two()}, {two(), bad}, {nil, two()}} {
		a, b := roomy(c[0]), roomy(c[1])
		choir.Join(a, b)
		choir.Join(b, a)
		choir.Join(a, a)
		if !same(a, c[0]) || !same(b, c[1]) {
			t.Errorf("P2: %v, %v have become %v, %v", c[0], c[1], a, b)
		}
		unspoilt(t, a)
		unspoilt(t, b)
	}
}

func TestJoinedIsNewMemory(t *testing.T) {
	for _, c := range [][2][]api.Series{{two(), nil}, {nil, two()}, {two(), two()}, {two(), keyed(0, 3)}, {fullest(), fullest()[2:4]}} {
		want := modelJoin(c[0], c[1])
		for i := range want {
			a, b := roomy(c[0]), roomy(c[1])
			got, _ := choir.Join(a, b)
			other, _ := choir.Join(a, b)
			overwrite(other)
			if !same(a, c[0]) || !same(b, c[1]) {
				t.Fatalf("P2: the join shares memory with %v or %v", a, b)
			}
			unspoilt(t, a)
			unspoilt(t, b)
			overwrite(a)
			overwrite(b)
			if !same(got, want) {
				t.Fatalf("P2: one answer, or what was handed in, changes another: %v", got)
			}
			standsAlone(t, got, want, i)
		}
	}
}

// Joined labels hold on to none of the texts that were handed in.
func TestJoinedTextsAreNew(t *testing.T) {
	key, value := strings.Repeat("k", 3), strings.Repeat("v", 3)
	got, _ := choir.Join([]api.Series{labelled(api.Label{Key: key, Value: value})}, nil)
	l := got[0].Labels[0]
	if unsafe.StringData(l.Key) == unsafe.StringData(key) || unsafe.StringData(l.Value) == unsafe.StringData(value) {
		t.Error("P2: a text of the join is one that was handed in")
	}
}

func TestMergeWritesNothing(t *testing.T) {
	a, b := modelFrame(two()), modelFrame(keyed(0, 3))
	for _, frames := range [][]string{{a, b, a, "spare"}, {b, "x", a, "spare"}} {
		given := append([]string{}, frames...)
		choir.Merge(given[:3]...)
		if !slices.Equal(given, frames) {
			t.Errorf("P2: %x has become %x", frames, given)
		}
	}
}
