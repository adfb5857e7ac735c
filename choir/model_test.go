package choir_test

// A second telling of the document's words on frames, made of texts of 0 and 1, to hold the program against.

import (
	"fmt"
	"hash/crc32"
	"math/rand"
	"sort"
	"strings"

	"choir/api"
)

// piece is a part of a payload: a number, or bytes.
type piece struct {
	number int
	bytes  string
	raw    bool
}

func number(n int) piece   { return piece{number: n} }
func bytes(s string) piece { return piece{bytes: s, raw: true} }

func varint(n int) string {
	groups := fmt.Sprintf("%b", n)
	groups = strings.Repeat("0", (7-len(groups)%7)%7) + groups
	var out []byte
	for len(groups) > 0 {
		group := groups[len(groups)-7:]
		groups = groups[:len(groups)-7]
		more := "1"
		if groups == "" {
			more = "0"
		}
		out = append(out, bitsToBytes(more + group)[0])
	}
	return string(out)
}

func bitsToBytes(bits string) string {
	bits += strings.Repeat("0", (8-len(bits)%8)%8)
	var out []byte
	for ; len(bits) > 0; bits = bits[8:] {
		var n int
		fmt.Sscanf(bits[:8], "%b", &n)
		out = append(out, byte(n))
	}
	return string(out)
}

func render(pieces []piece) string {
	var out strings.Builder
	for _, p := range pieces {
		if p.raw {
			out.WriteString(p.bytes)
		} else {
			out.WriteString(varint(p.number))
		}
	}
	return out.String()
}

// sealed: a payload as a frame, with its right length and sum.
func sealed(payload string) string {
	n := len(payload)
	return summed("CH\x01" + string([]byte{byte(n >> 24), byte(n >> 16), byte(n >> 8), byte(n)}) + payload)
}

func summed(s string) string {
	c := crc32.Checksum([]byte(s), crc32.MakeTable(crc32.Castagnoli))
	return s + string([]byte{byte(c), byte(c >> 8), byte(c >> 16), byte(c >> 24)})
}

func modelFrame(b []api.Series) string { return sealed(render(modelPieces(b))) }

func modelPieces(b []api.Series) []piece {
	numbers := map[string]int{}
	var texts []string
	for _, s := range b {
		for _, l := range s.Labels {
			for _, text := range []string{l.Key, l.Value} {
				if _, ok := numbers[text]; !ok {
					numbers[text] = 0
					texts = append(texts, text)
				}
			}
		}
	}
	sort.Strings(texts)
	out := []piece{number(len(texts))}
	for i, text := range texts {
		numbers[text] = i
		out = append(out, number(len(text)), bytes(text))
	}
	out = append(out, number(len(b)))
	for _, s := range b {
		out = append(out, number(len(s.Labels)))
		for _, l := range s.Labels {
			out = append(out, number(numbers[l.Key]), number(numbers[l.Value]))
		}
		chunk := bitsToBytes(modelChunk(s.Samples))
		out = append(out, number(len(s.Samples)), number(len(chunk)), bytes(chunk))
	}
	return out
}

func modelChunk(samples []api.Sample) string {
	out := firstSample(samples[0])
	var step uint64
	from, to := 0, 0
	for i := 1; i < len(samples); i++ {
		d := uint64(samples[i].Time) - uint64(samples[i-1].Time)
		out += modelStep(int64(d - step))
		step = d
		x := fmt.Sprintf("%064b", samples[i].Bits^samples[i-1].Bits)
		ones := strings.Count(x, "1")
		switch {
		case ones == 0:
			out += "0"
		case strings.Count(x[from:to], "1") == ones:
			out += "10" + x[from:to]
		default:
			from, to = min(strings.Index(x, "1"), 31), strings.LastIndex(x, "1")+1
			out += newWindow(from, to-from, x[from:to])
		}
	}
	return out
}

func firstSample(s api.Sample) string {
	return fmt.Sprintf("%064b%064b", uint64(s.Time), s.Bits)
}

func newWindow(n, m int, bits string) string {
	return fmt.Sprintf("11%05b%06b", n, m-1) + bits
}

func modelStep(e int64) string {
	switch {
	case e == 0:
		return "0"
	case -63 <= e && e <= 64:
		return short(e)
	case -255 <= e && e <= 256:
		return middle(e)
	case -2047 <= e && e <= 2048:
		return long(e)
	}
	return whole(e)
}

func short(e int64) string  { return fmt.Sprintf("10%07b", e+63) }
func middle(e int64) string { return fmt.Sprintf("110%09b", e+255) }
func long(e int64) string   { return fmt.Sprintf("1110%012b", e+2047) }
func whole(e int64) string  { return fmt.Sprintf("1111%064b", uint64(e)) }

// randomBatch makes a batch within limits that is rich in edges.
func randomBatch(r *rand.Rand) []api.Series {
	seen := map[string]bool{}
	var b []api.Series
	for range r.Intn(api.MaxSeries + 1) {
		labels := randomLabels(r)
		if name := fmt.Sprintf("%q", labels); !seen[name] {
			seen[name] = true
			b = append(b, api.Series{Labels: labels, Samples: randomSamples(r)})
		}
	}
	sort.Slice(b, func(i, k int) bool { return lessLabels(b[i].Labels, b[k].Labels) })
	return b
}

func lessLabels(a, b []api.Label) bool {
	for i := range min(len(a), len(b)) {
		if a[i].Key != b[i].Key {
			return a[i].Key < b[i].Key
		}
		if a[i].Value != b[i].Value {
			return a[i].Value < b[i].Value
		}
	}
	return len(a) < len(b)
}

func randomLabels(r *rand.Rand) []api.Label {
	texts := []string{"a", "aa", "ab", "b", "host", "\x00", "\xff", "\xc3\xa9", "z", strings.Repeat("k", api.MaxText)}
	var labels []api.Label
	for _, i := range r.Perm(len(texts))[:r.Intn(api.MaxLabels+1)] {
		value := ""
		if r.Intn(4) > 0 {
			value = texts[r.Intn(len(texts))]
		}
		labels = append(labels, api.Label{Key: texts[i], Value: value})
	}
	sort.Slice(labels, func(i, k int) bool { return labels[i].Key < labels[k].Key })
	return labels
}

func randomSamples(r *rand.Rand) []api.Sample {
	steps := []int{1, 2, 63, 64, 65, 66, 128, 129, 255, 256, 257, 2047, 2048, 2049, 4096, 1 << 40, 1 << 62}
	s := api.Sample{Time: r.Intn(100) - 50, Bits: r.Uint64()}
	if r.Intn(3) == 0 {
		s.Time = -1 << 63
	}
	samples := []api.Sample{s}
	step := 1
	for range r.Intn(api.MaxSamples) {
		if r.Intn(3) > 0 {
			step = steps[r.Intn(len(steps))]
		}
		if s.Time+step <= s.Time {
			break
		}
		s.Time += step
		switch r.Intn(4) {
		case 0:
			s.Bits ^= r.Uint64()
		case 1:
			s.Bits ^= r.Uint64() >> r.Intn(64) << r.Intn(64)
		case 2:
			s.Bits ^= 1 << r.Intn(64)
		}
		samples = append(samples, s)
	}
	return samples
}
