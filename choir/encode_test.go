package choir_test

import (
	"encoding/hex"
	"math"
	"math/rand"
	"strings"
	"testing"

	"choir/api"
	"choir/choir"
)

func series(samples ...api.Sample) []api.Series { return []api.Series{{Samples: samples}} }

func labelled(labels ...api.Label) api.Series {
	return api.Series{Labels: labels, Samples: []api.Sample{{Time: 1, Bits: 2}}}
}

func times(list ...int) []api.Series {
	var s api.Series
	for _, t := range list {
		s.Samples = append(s.Samples, api.Sample{Time: t})
	}
	return []api.Series{s}
}

func values(list ...uint64) []api.Series {
	var s api.Series
	for i, v := range list {
		s.Samples = append(s.Samples, api.Sample{Time: i, Bits: v})
	}
	return []api.Series{s}
}

// fullest is a batch at all limits at once: no two of its texts are the same, and all its samples need the widest telling of their times.
func fullest() []api.Series {
	text := 0
	next := func() string {
		text++
		return strings.Repeat("t", api.MaxText-2) + string(rune('0'+text/10)) + string(rune('0'+text%10))
	}
	var b []api.Series
	for range api.MaxSeries {
		var s api.Series
		for range api.MaxLabels {
			s.Labels = append(s.Labels, api.Label{Key: next(), Value: next()})
		}
		for i := range api.MaxSamples {
			s.Samples = append(s.Samples, api.Sample{Time: i * i * i << 20, Bits: uint64(i) * 0x9E3779B97F4A7C15})
		}
		b = append(b, s)
	}
	return b
}

// encodesTo: b is encoded to that frame, and that frame is decoded to b.
func encodesTo(t *testing.T, b []api.Series, want string) {
	t.Helper()
	got, e := choir.Encode(b)
	if e != api.OK || got != want {
		t.Errorf("P3: Encode(%v) = %x, %d, want %x", b, got, e, want)
	}
	back, e := choir.Decode(want)
	if e != api.OK || !same(b, back) {
		t.Errorf("P4: Decode(%x) = %v, %d, want %v", want, back, e, b)
	}
}

// same: a list without elements may be nil.
func same(a, b []api.Series) bool {
	if len(a) != len(b) {
		return false
	}
	for i := range a {
		if len(a[i].Labels) != len(b[i].Labels) || len(a[i].Samples) != len(b[i].Samples) {
			return false
		}
		for k := range a[i].Labels {
			if a[i].Labels[k] != b[i].Labels[k] {
				return false
			}
		}
		for k := range a[i].Samples {
			if a[i].Samples[k] != b[i].Samples[k] {
				return false
			}
		}
	}
	return true
}

func TestDocumentExamples(t *testing.T) {
	const first = "0000000000000001" + "0000000000000002"
	for _, c := range []struct {
		b       []api.Series
		payload string
	}{
		{nil, "0000"},
		{series(api.Sample{Time: 1, Bits: 2}), "0001000110" + first},
		{series(api.Sample{Time: 1, Bits: 2}, api.Sample{Time: 3, Bits: 2}), "0001000212" + first + "a080"},
		{series(api.Sample{Time: 1, Bits: 2}, api.Sample{Time: 3, Bits: 2}, api.Sample{Time: 5, Bits: 6}), "0001000317" + first + "a09fde00000002"},
	} {
		payload, err := hex.DecodeString(c.payload)
		if err != nil {
			t.Fatal(err)
		}
		encodesTo(t, c.b, sealed(string(payload)))
	}
}

// The sum written out, so that not both it and what it is held against can be wrong.
func TestEmptyFrame(t *testing.T) {
	const want = "CH\x01\x00\x00\x00\x02\x00\x00" + "\x2a\xec\xdf\x0c"
	encodesTo(t, nil, want)
	encodesTo(t, []api.Series{}, want)
}

func TestStepBorders(t *testing.T) {
	for _, c := range []struct {
		e    int64
		told string
	}{
		{0, "0"},
		{1, short(1)}, {-1, short(-1)}, {64, short(64)}, {-63, short(-63)},
		{65, middle(65)}, {-64, middle(-64)}, {256, middle(256)}, {-255, middle(-255)},
		{257, long(257)}, {-256, long(-256)}, {2048, long(2048)}, {-2047, long(-2047)},
		{2049, whole(2049)}, {-2048, whole(-2048)}, {1 << 40, whole(1 << 40)}, {-1 << 12, whole(-1 << 12)},
	} {
		// A first step of 5000 leaves room for a second one that is less.
		b := times(7, 5007, 5007+5000+int(c.e))
		bits := firstSample(api.Sample{Time: 7}) + whole(5000) + "0" + c.told + "0"
		encodesTo(t, b, chunkFrame(bits, 3))
	}
}

func TestTimesWrap(t *testing.T) {
	const least, most = math.MinInt, math.MaxInt
	at := func(time int) string { return firstSample(api.Sample{Time: time}) }
	for _, c := range []struct {
		b    []api.Series
		bits string
	}{
		{times(least, most), at(least) + short(-1) + "0"},
		{times(least, 0), at(least) + whole(least) + "0"},
		{times(least, -1), at(least) + whole(most) + "0"},
		{times(-1, most), at(-1) + whole(least) + "0"},
		{times(least, most-1, most), at(least) + short(-2) + "0" + short(3) + "0"},
		{times(least, least+1, most), at(least) + short(1) + "0" + short(-3) + "0"},
		{times(least, 0, most), at(least) + whole(least) + "0" + short(-1) + "0"},
		{times(-2, -1, 0, 1), at(-2) + short(1) + "0" + "00" + "00"},
	} {
		encodesTo(t, c.b, chunkFrame(c.bits, len(c.b[0].Samples)))
	}
}

func TestWindows(t *testing.T) {
	zeros := func(n int) string { return strings.Repeat("0", n) }
	ones := func(n int) string { return strings.Repeat("1", n) }
	for _, c := range []struct {
		b    []api.Series
		bits []string // for each sample behind the first
	}{
		{values(0, 0, 0), []string{"0", "0"}},
		{values(0, 1), []string{newWindow(31, 33, zeros(32)+"1")}},
		{values(0, math.MaxUint64), []string{newWindow(0, 64, ones(64))}},
		{values(0, 1<<63), []string{newWindow(0, 1, "1")}},
		{values(0, 1<<33), []string{newWindow(30, 1, "1")}},
		{values(0, 1<<32), []string{newWindow(31, 1, "1")}},
		{values(0, 1<<31), []string{newWindow(31, 2, "01")}},
		// Kept, also over a sample that is the same, and though a new one would be shorter.
		{values(0, 0xff0, 0xff0, 0xfe0), []string{newWindow(31, 29, zeros(21)+ones(8)), "0", "10" + zeros(28) + "1"}},
		{values(0, 1<<63|1, 1<<63), []string{newWindow(0, 64, "1"+zeros(62)+"1"), "10" + zeros(63) + "1"}},
		// Not kept: a bit ahead of it, a bit behind it.
		{values(0, 3<<40, 7<<40), []string{newWindow(22, 2, "11"), newWindow(21, 1, "1")}},
		{values(0, 3<<40, 3<<40|1<<39), []string{newWindow(22, 2, "11"), newWindow(24, 1, "1")}},
		// The newer of two windows is the one that is there.
		{values(0, 7<<40, 7<<40|1<<50, 6<<40|1<<50), []string{newWindow(21, 3, "111"), newWindow(13, 1, "1"), newWindow(23, 1, "1")}},
		{values(0, 1<<40, 5<<40, 6<<40), []string{newWindow(23, 1, "1"), newWindow(21, 1, "1"), newWindow(22, 2, "11")}},
	} {
		bits := firstSample(c.b[0].Samples[0])
		for i, x := range c.bits {
			step := "0"
			if i == 0 {
				step = short(1)
			}
			bits += step + x
		}
		encodesTo(t, c.b, chunkFrame(bits, len(c.bits)+1))
	}
}

func TestTexts(t *testing.T) {
	chunk := bitsToBytes(firstSample(api.Sample{Time: 1, Bits: 2}))
	one := []piece{number(1), number(16), bytes(chunk)}
	// A key of one series is a value of another; the empty string is one too; bytes are compared as numbers.
	b := []api.Series{
		labelled(api.Label{Key: "a"}),
		labelled(api.Label{Key: "a"}, api.Label{Key: "\xff", Value: "z"}),
		labelled(api.Label{Key: "a", Value: "a"}, api.Label{Key: "z", Value: "\xff"}),
	}
	pieces := []piece{number(4), number(0), number(1), bytes("a"), number(1), bytes("z"), number(1), bytes("\xff"), number(3)}
	pieces = append(append(pieces, number(1), number(1), number(0)), one...)
	pieces = append(append(pieces, number(2), number(1), number(0), number(3), number(2)), one...)
	pieces = append(append(pieces, number(2), number(1), number(1), number(2), number(3)), one...)
	encodesTo(t, b, sealed(render(pieces)))
}

func TestFullestBatch(t *testing.T) {
	b := fullest()
	encodesTo(t, b, modelFrame(b))
}

func TestRandomBatches(t *testing.T) {
	r := rand.New(rand.NewSource(1))
	for range 2000 {
		b := randomBatch(r)
		encodesTo(t, b, modelFrame(b))
	}
}

func TestEncodeRefuses(t *testing.T) {
	long := strings.Repeat("k", api.MaxText+1)
	five := labelled(api.Label{Key: "a"}, api.Label{Key: "b"}, api.Label{Key: "c"}, api.Label{Key: "d"}, api.Label{Key: "e"})
	bad := api.Series{Labels: []api.Label{{Key: "zz"}}}
	nine := fullest()
	nine = append(nine, labelled(api.Label{Key: "z"}))
	var many []int
	for i := range api.MaxSamples + 1 {
		many = append(many, i)
	}
	for name, c := range map[string]struct {
		b    []api.Series
		want api.Errno
	}{
		"no sample":                    {series(), api.ErrBatch},
		"one time twice":               {times(1, 1), api.ErrBatch},
		"falling times":                {times(1, 2, 1), api.ErrBatch},
		"times that rise by wrapping":  {times(math.MaxInt, math.MinInt), api.ErrBatch},
		"an empty key":                 {[]api.Series{labelled(api.Label{Value: "x"})}, api.ErrBatch},
		"a long key":                   {[]api.Series{labelled(api.Label{Key: long})}, api.ErrBatch},
		"a long value":                 {[]api.Series{labelled(api.Label{Key: "k", Value: long})}, api.ErrBatch},
		"falling keys":                 {[]api.Series{labelled(api.Label{Key: "b"}, api.Label{Key: "a"})}, api.ErrBatch},
		"one key twice":                {[]api.Series{labelled(api.Label{Key: "a"}, api.Label{Key: "a", Value: "x"})}, api.ErrBatch},
		"keys that rise as runes only": {[]api.Series{labelled(api.Label{Key: "\uffff"}, api.Label{Key: "z"})}, api.ErrBatch},
		"no labels twice":              {[]api.Series{labelled(), labelled()}, api.ErrBatch},
		"the same labels twice":        {[]api.Series{labelled(api.Label{Key: "a"}), labelled(api.Label{Key: "a"})}, api.ErrBatch},
		"a beginning behind the whole": {[]api.Series{labelled(api.Label{Key: "a"}, api.Label{Key: "b"}), labelled(api.Label{Key: "a"})}, api.ErrBatch},
		"falling values":               {[]api.Series{labelled(api.Label{Key: "a", Value: "y"}), labelled(api.Label{Key: "a", Value: "x"})}, api.ErrBatch},
		"falling keys, rising values":  {[]api.Series{labelled(api.Label{Key: "b", Value: "x"}), labelled(api.Label{Key: "a", Value: "y"})}, api.ErrBatch},
		"rising keys, falling values":  {[]api.Series{labelled(api.Label{Key: "a", Value: "y"}), labelled(api.Label{Key: "b", Value: "x"})}, api.OK},
		"a value ahead of more labels": {[]api.Series{labelled(api.Label{Key: "a", Value: "x"}, api.Label{Key: "b"}), labelled(api.Label{Key: "a", Value: "y"})}, api.OK},
		"too many series":              {nine, api.ErrLimit},
		"too many labels":              {[]api.Series{five}, api.ErrLimit},
		"too many samples":             {times(many...), api.ErrLimit},
		"too many series, one no such": {append(append([]api.Series{}, nine...), bad), api.ErrBatch},
		"too many labels, then a bad":  {[]api.Series{five, bad}, api.ErrBatch},
		"too many samples, then a bad": {append(times(many...), bad), api.ErrBatch},
		"as many series as may be":     {nine[:8], api.OK},
		"as many labels as may be":     {[]api.Series{labelled(five.Labels[:4]...)}, api.OK},
		"as many samples as may be":    {times(many[:40]...), api.OK},
		"texts as long as may be":      {[]api.Series{labelled(api.Label{Key: long[1:], Value: long[1:]})}, api.OK},
	} {
		s, e := choir.Encode(c.b)
		if e != c.want || (s == "") != (e != api.OK) {
			t.Errorf("P3: %s: %d bytes, %d, want %d", name, len(s), e, c.want)
		}
	}
}
