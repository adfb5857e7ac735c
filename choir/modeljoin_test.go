package choir_test

// A second telling of the document's words on the join, made of maps, to hold the program against.

import (
	"fmt"
	"math/rand"
	"sort"

	"choir/api"
)

func modelJoin(batches ...[]api.Series) []api.Series {
	labels := map[string][]api.Label{}
	bits := map[string]map[int]uint64{}
	for _, b := range batches {
		for _, s := range b {
			name := fmt.Sprintf("%q", s.Labels)
			if bits[name] == nil {
				labels[name], bits[name] = s.Labels, map[int]uint64{}
			}
			for _, x := range s.Samples {
				bits[name][x.Time] = max(bits[name][x.Time], x.Bits)
			}
		}
	}
	var joined []api.Series
	for name, l := range labels {
		s := api.Series{Labels: l}
		for time, x := range bits[name] {
			s.Samples = append(s.Samples, api.Sample{Time: time, Bits: x})
		}
		sort.Slice(s.Samples, func(i, k int) bool { return s.Samples[i].Time < s.Samples[k].Time })
		joined = append(joined, s)
	}
	sort.Slice(joined, func(i, k int) bool { return lessLabels(joined[i].Labels, joined[k].Labels) })
	return joined
}

// modelLimit: ErrLimit, if a batch has too many of something.
func modelLimit(b []api.Series) api.Errno {
	if len(b) > api.MaxSeries {
		return api.ErrLimit
	}
	for _, s := range b {
		if len(s.Labels) > api.MaxLabels || len(s.Samples) > api.MaxSamples {
			return api.ErrLimit
		}
	}
	return api.OK
}

// meeting makes a batch within limits out of few labels and few times, so that two of them have many in common.
func meeting(r *rand.Rand, names, times int) []api.Series {
	pool := [][]api.Label{
		nil,
		{{Key: "a"}},
		{{Key: "a"}, {Key: "b"}},
		{{Key: "a"}, {Key: "b", Value: "\xff"}},
		{{Key: "a", Value: "a"}},
		{{Key: "aa"}},
		{{Key: "b"}, {Key: "c"}, {Key: "d"}, {Key: "e"}},
		{{Key: "b", Value: "c"}},
		{{Key: "c"}},
		{{Key: "\xff"}},
	}
	var b []api.Series
	for _, labels := range pool[:names] {
		if len(b) == api.MaxSeries || r.Intn(2) == 0 {
			continue
		}
		s := api.Series{Labels: labels}
		for time := range times {
			if len(s.Samples) < api.MaxSamples && r.Intn(2) == 0 {
				s.Samples = append(s.Samples, api.Sample{Time: time - times/2, Bits: uint64(r.Intn(3)) << 63 >> r.Intn(3)})
			}
		}
		if len(s.Samples) > 0 {
			b = append(b, s)
		}
	}
	return b
}
