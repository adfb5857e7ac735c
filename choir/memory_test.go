package choir_test

import (
	"testing"

	"choir/api"
	"choir/choir"
)

// roomy: b with spare room behind every list, and all of that room filled.
func roomy(b []api.Series) []api.Series {
	out := make([]api.Series, 0, len(b)+3)
	for _, s := range b {
		labels := append(append([]api.Label{}, s.Labels...), api.Label{Key: "spare"}, api.Label{Key: "spare"})
		samples := append(append([]api.Sample{}, s.Samples...), api.Sample{Time: 77}, api.Sample{Time: 77})
		out = append(out, api.Series{Labels: labels[:len(s.Labels)], Samples: samples[:len(s.Samples)]})
	}
	for range 3 {
		out = append(out, api.Series{Labels: []api.Label{{Key: "spare"}}})
	}
	return out[:len(b)]
}

// unspoilt: the spare room is as roomy filled it.
func unspoilt(t *testing.T, b []api.Series) {
	t.Helper()
	for i, s := range b[:cap(b)] {
		if i >= len(b) {
			if len(s.Labels) != 1 || s.Labels[0].Key != "spare" || s.Samples != nil {
				t.Errorf("P2: the room behind the series: %v", s)
			}
			continue
		}
		for _, l := range s.Labels[len(s.Labels) : len(s.Labels)+2] {
			if l.Key != "spare" {
				t.Errorf("P2: the room behind labels: %v", l)
			}
		}
		for _, x := range s.Samples[len(s.Samples) : len(s.Samples)+2] {
			if x.Time != 77 {
				t.Errorf("P2: the room behind samples: %v", x)
			}
		}
	}
}

func TestEncodeWritesNothing(t *testing.T) {
	for _, b := range [][]api.Series{two(), fullest(), append(two(), api.Series{}), times(2, 1)} {
		given := roomy(b)
		choir.Encode(given)
		if !same(given, b) {
			t.Errorf("P2: %v has become %v", b, given)
		}
		unspoilt(t, given)
	}
}

// overwrite writes into all of a batch's lists, and into the room behind them.
func overwrite(b []api.Series) {
	for i := range b {
		labels, samples := b[i].Labels, b[i].Samples
		for k := range labels[:cap(labels)] {
			labels[:cap(labels)][k] = api.Label{Key: "over", Value: "written"}
		}
		for k := range samples[:cap(samples)] {
			samples[:cap(samples)][k] = api.Sample{Time: -99, Bits: 99}
		}
	}
	clear(b[:cap(b)])
}

func TestDecodedIsNewMemory(t *testing.T) {
	for _, want := range [][]api.Series{two(), fullest()} {
		s := modelFrame(want)
		for i := range want {
			got, _ := choir.Decode(s)
			other, _ := choir.Decode(s)
			overwrite(other)
			if !same(got, want) {
				t.Fatalf("P2: one answer changes another: %v", got)
			}
			overwrite(got[i : i+1 : i+1])
			got[i] = want[i]
			if !same(got, want) {
				t.Errorf("P2: series %d shares memory with another: %v", i, got)
			}
		}
		encodesTo(t, want, s)
	}
}
