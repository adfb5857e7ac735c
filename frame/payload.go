package frame

import (
	"slices"
	"strings"

	"choir/api"
)

// maxTexts: no more different strings can stand in the labels of a batch within limits.
const maxTexts = 2 * api.MaxSeries * api.MaxLabels

// textsOf: the different strings of all labels, the lesser first.
func textsOf(b []api.Series) []string {
	var texts []string
	for _, s := range b {
		for _, l := range s.Labels {
			texts = append(texts, l.Key, l.Value)
		}
	}
	slices.Sort(texts)
	return slices.Compact(texts)
}

// numbers are those of a label's key and value among the texts.
type numbers struct{ key, value int }

// numbersOf finds the numbers of every label once, however many series have it.
func numbersOf(b []api.Series, texts []string) map[api.Label]numbers {
	found := make(map[api.Label]numbers)
	for _, s := range b {
		for _, l := range s.Labels {
			if _, ok := found[l]; !ok {
				found[l] = numbers{key: numberOf(texts, l.Key), value: numberOf(texts, l.Value)}
			}
		}
	}
	return found
}

func packPayload(b []api.Series) []byte {
	texts := textsOf(b)
	out := appendVarint(nil, len(texts))
	for _, text := range texts {
		out = appendVarint(out, len(text))
		out = append(out, text...)
	}
	labels := numbersOf(b, texts)
	out = appendVarint(out, len(b))
	for _, s := range b {
		out = appendSeries(out, labels, s)
	}
	return out
}

func appendSeries(out []byte, labels map[api.Label]numbers, s api.Series) []byte {
	out = appendVarint(out, len(s.Labels))
	for _, l := range s.Labels {
		n := labels[l]
		out = appendVarint(out, n.key)
		out = appendVarint(out, n.value)
	}
	chunk := packChunk(s.Samples)
	out = appendVarint(out, len(s.Samples))
	out = appendVarint(out, len(chunk))
	return append(out, chunk...)
}

func numberOf(texts []string, text string) int {
	i, _ := slices.BinarySearch(texts, text)
	return i
}

// unpackPayload reads every payload, and more than that: it does not ask whether the series are a batch, nor whether all is packed as it must be.
func unpackPayload(payload string) ([]api.Series, state) {
	r := byteReader{left: payload}
	texts := r.texts()
	count := r.number(api.MaxSeries)
	b := make([]api.Series, 0, count)
	for range count {
		labels := r.labels(texts)
		b = append(b, api.Series{Labels: labels, Samples: r.samples()})
	}
	return b, r.state
}

func (r *byteReader) texts() []string {
	count := r.number(maxTexts)
	texts := make([]string, 0, count)
	for range count {
		// A copy, for the batch must not hold on to the frame that was handed in.
		texts = append(texts, strings.Clone(r.text(api.MaxText)))
	}
	return texts
}

func (r *byteReader) labels(texts []string) []api.Label {
	count := r.number(api.MaxLabels)
	labels := make([]api.Label, 0, count)
	for range count {
		key := r.textOf(texts)
		labels = append(labels, api.Label{Key: key, Value: r.textOf(texts)})
	}
	return labels
}

func (r *byteReader) textOf(texts []string) string {
	i := r.number(len(texts) - 1)
	if r.state == broken {
		return ""
	}
	return texts[i]
}

func (r *byteReader) samples() []api.Sample {
	count := r.number(api.MaxSamples)
	chunk := r.text(len(r.left))
	if count == 0 {
		r.fail()
		return nil
	}
	samples, outcome := unpackChunk(chunk, count)
	if outcome == broken {
		r.fail()
	}
	return samples
}
