// Package batch says what a batch is, and when it is within limits.
package batch

import (
	"cmp"
	"slices"
	"strings"

	"choir/api"
)

// Check answers ErrBatch, ErrLimit or OK. All that is given is looked at for ErrBatch ahead of any limit, because that error is named first.
func Check(batches ...[]api.Series) api.Errno {
	for _, b := range batches {
		if !isBatch(b) {
			return api.ErrBatch
		}
	}
	for _, b := range batches {
		if !withinLimits(b) {
			return api.ErrLimit
		}
	}
	return api.OK
}

// CompareLabels answers below 0, 0 or above 0, as a is less than, the same as or greater than b.
func CompareLabels(a, b []api.Label) int {
	return slices.CompareFunc(a, b, compareLabel)
}

func compareLabel(a, b api.Label) int {
	return cmp.Or(strings.Compare(a.Key, b.Key), strings.Compare(a.Value, b.Value))
}

// Same: are they the same, series by series? A list without elements is the same as none.
func Same(a, b []api.Series) bool { return slices.EqualFunc(a, b, sameSeries) }

func sameSeries(a, b api.Series) bool {
	return slices.Equal(a.Labels, b.Labels) && slices.Equal(a.Samples, b.Samples)
}

// CopyLabels copies the texts too, for a copy must not hold on to a greater text of which they are a part.
func CopyLabels(labels []api.Label) []api.Label {
	copied := make([]api.Label, 0, len(labels))
	for _, l := range labels {
		copied = append(copied, api.Label{Key: strings.Clone(l.Key), Value: strings.Clone(l.Value)})
	}
	return copied
}

func isBatch(b []api.Series) bool {
	for i, s := range b {
		if !areLabels(s.Labels) || !areSamples(s.Samples) {
			return false
		}
		if i > 0 && CompareLabels(b[i-1].Labels, s.Labels) >= 0 {
			return false
		}
	}
	return true
}

func areLabels(labels []api.Label) bool {
	for i, l := range labels {
		if l.Key == "" || len(l.Key) > api.MaxText || len(l.Value) > api.MaxText {
			return false
		}
		if i > 0 && labels[i-1].Key >= l.Key {
			return false
		}
	}
	return true
}

func areSamples(samples []api.Sample) bool {
	for i, s := range samples {
		if i > 0 && samples[i-1].Time >= s.Time {
			return false
		}
	}
	return len(samples) > 0
}

func withinLimits(b []api.Series) bool {
	for _, s := range b {
		if len(s.Labels) > api.MaxLabels || len(s.Samples) > api.MaxSamples {
			return false
		}
	}
	return len(b) <= api.MaxSeries
}
