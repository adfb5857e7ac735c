// Package join brings batches together.
package join

import (
	"cmp"
	"slices"

	"choir/api"
	"choir/batch"
)

// All answers the join of any number of batches, in new memory; or ErrLimit, if it would not be within limits.
func All(batches ...[]api.Series) ([]api.Series, api.Errno) {
	joined := joinBatches(batches)
	if e := batch.Check(joined); e != api.OK {
		return nil, e
	}
	return joined, api.OK
}

func joinBatches(batches [][]api.Series) []api.Series {
	left := restsOf(batches, compareSeries)
	var joined []api.Series
	for left.Len() > 0 {
		joined = append(joined, joinSeries(left.takeAlike()))
	}
	return joined
}

// joinSeries makes one series of those that have the same labels.
func joinSeries(alike []api.Series) api.Series {
	lists := make([][]api.Sample, 0, len(alike))
	for _, s := range alike {
		lists = append(lists, s.Samples)
	}
	return api.Series{Labels: batch.CopyLabels(alike[0].Labels), Samples: joinSamples(lists)}
}

func joinSamples(lists [][]api.Sample) []api.Sample {
	left := restsOf(lists, compareTimes)
	var joined []api.Sample
	for left.Len() > 0 {
		joined = append(joined, slices.MaxFunc(left.takeAlike(), compareBits))
	}
	return joined
}

func compareSeries(a, b api.Series) int { return batch.CompareLabels(a.Labels, b.Labels) }

func compareTimes(a, b api.Sample) int { return cmp.Compare(a.Time, b.Time) }

func compareBits(a, b api.Sample) int { return cmp.Compare(a.Bits, b.Bits) }
