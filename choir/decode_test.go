package choir_test

import (
	"math/rand"
	"strings"
	"testing"

	"choir/api"
	"choir/choir"
)

// chunkFrame: one series without labels, its chunk of these bits.
func chunkFrame(bits string, samples int) string {
	chunk := bitsToBytes(bits)
	return sealed(render([]piece{number(0), number(1), number(0), number(samples), number(len(chunk)), bytes(chunk)}))
}

// two is a batch that has some of everything.
func two() []api.Series {
	return []api.Series{
		{Samples: []api.Sample{{Time: 1, Bits: 2}, {Time: 3, Bits: 2}, {Time: 500, Bits: 6}}},
		{Labels: []api.Label{{Key: "a", Value: ""}, {Key: "host", Value: "a"}}, Samples: []api.Sample{{Time: -7, Bits: 1 << 60}}},
	}
}

func refuse(t *testing.T, name, s string) {
	t.Helper()
	if b, e := choir.Decode(s); e != api.ErrFrame || len(b) != 0 {
		t.Errorf("P4: %s: Decode(%x) = %v, %d, want ErrFrame", name, s, b, e)
	}
}

// onlyFrames: what is decoded is the frame of what it is decoded to.
func onlyFrames(t *testing.T, s string) {
	t.Helper()
	b, e := choir.Decode(s)
	if e != api.OK && e != api.ErrFrame || e != api.OK && len(b) != 0 {
		t.Errorf("P4: Decode(%x) = %v, %d", s, b, e)
	}
	if again, f := choir.Encode(b); e == api.OK && (f != api.OK || again != s) {
		t.Errorf("P4: %x is decoded to %v, of which the frame is %x", s, b, again)
	}
}

func TestCutLongerDoubled(t *testing.T) {
	for _, s := range []string{modelFrame(nil), modelFrame(two())} {
		for i := range len(s) {
			refuse(t, "cut", s[:i])
			refuse(t, "cut in front", s[i+1:])
			refuse(t, "a byte left out", s[:i]+s[i+1:])
			refuse(t, "a byte doubled", s[:i+1]+s[i:])
		}
		refuse(t, "longer", s+"\x00")
		refuse(t, "longer in front", "\x00"+s)
		refuse(t, "doubled", s+s)
		refuse(t, "turned round", reversed(s))
		refuse(t, "summed again", summed(s))
	}
}

func reversed(s string) string {
	var out []byte
	for i := len(s) - 1; i >= 0; i-- {
		out = append(out, s[i])
	}
	return string(out)
}

// What stands around the payload, with a sum that is right.
func TestHead(t *testing.T) {
	frame := modelFrame(two())
	s := frame[:len(frame)-4]
	for name, head := range map[string]string{
		"small letters": "ch\x01", "turned": "HC\x01", "another kind": "CH\x02", "kind 0": "CH\x00",
	} {
		refuse(t, name, summed(head+s[3:]))
	}
	n := len(s) - 7
	for name, length := range map[string][]byte{
		"one less":       {0, 0, 0, byte(n - 1)},
		"one more":       {0, 0, 0, byte(n + 1)},
		"low byte first": {byte(n), 0, 0, 0},
		"greatest":       {255, 255, 255, 255},
		"256 more":       {0, 0, 1, byte(n)},
	} {
		refuse(t, name, summed(s[:3]+string(length)+s[7:]))
	}
	sum := frame[len(s):]
	refuse(t, "the sum's high byte first", s+reversed(sum))
	if frame != summed(s) {
		t.Error("the frame that these are made of is none")
	}
}

func TestVarintsNotPacked(t *testing.T) {
	pieces := modelPieces(two())
	for i, p := range pieces {
		if p.raw {
			continue
		}
		plain := varint(p.number)
		last := len(plain) - 1
		open := plain[:last] + string([]byte{plain[last] | 0x80})
		for _, end := range []string{"\x00", "\x80\x00", "\x80\x80\x80\x80\x80\x80\x80\x80\x00", strings.Repeat("\x80", 20) + "\x00", strings.Repeat("\xff", 40) + "\x7f"} {
			refuse(t, "a longer varint", sealed(render(replaced(pieces, i, bytes(open+end)))))
		}
		refuse(t, "a varint without end", sealed(render(pieces[:i])+open))
		for _, n := range []int{p.number - 1, p.number + 1, p.number + 128, 1 << 32, 1<<62 + p.number} {
			if n >= 0 {
				onlyFrames(t, sealed(render(replaced(pieces, i, number(n)))))
			}
		}
	}
}

func replaced(pieces []piece, i int, p piece) []piece {
	out := append([]piece{}, pieces...)
	out[i] = p
	return out
}

func TestChunkNotPacked(t *testing.T) {
	first := firstSample(api.Sample{Time: 1, Bits: 2})
	zeros := func(n int) string { return strings.Repeat("0", n) }
	window := first + short(1) + newWindow(10, 4, "1001") // the bits 10 to 13 are the window
	for name, c := range map[string]struct {
		good, bad string
		samples   int
	}{
		"e of 0 in 7 bits":              {first + short(1) + "0" + "0" + "0", first + short(1) + "0" + short(0) + "0", 3},
		"e of 0 in 9 bits":              {first + short(1) + "0" + "0" + "0", first + short(1) + "0" + middle(0) + "0", 3},
		"e of 0 in 12 bits":             {first + short(1) + "0" + "0" + "0", first + short(1) + "0" + long(0) + "0", 3},
		"e of 0 in 64 bits":             {first + short(1) + "0" + "0" + "0", first + short(1) + "0" + whole(0) + "0", 3},
		"e of 1 in 9 bits":              {first + short(1) + "0", first + middle(1) + "0", 2},
		"e of 64 in 9 bits":             {first + short(64) + "0", first + middle(64) + "0", 2},
		"e of 64 in 12 bits":            {first + short(64) + "0", first + long(64) + "0", 2},
		"e of 64 in 64 bits":            {first + short(64) + "0", first + whole(64) + "0", 2},
		"e of -63 in 9 bits":            {first + middle(70) + "0" + short(-63) + "0", first + middle(70) + "0" + middle(-63) + "0", 3},
		"e of 65 in 12 bits":            {first + middle(65) + "0", first + long(65) + "0", 2},
		"e of 256 in 12 bits":           {first + middle(256) + "0", first + long(256) + "0", 2},
		"e of 256 in 64 bits":           {first + middle(256) + "0", first + whole(256) + "0", 2},
		"e of -255 in 12 bits":          {first + long(300) + "0" + middle(-255) + "0", first + long(300) + "0" + long(-255) + "0", 3},
		"e of 2048 in 64 bits":          {first + long(2048) + "0", first + whole(2048) + "0", 2},
		"e of -2047 in 64 bits":         {first + whole(3000) + "0" + long(-2047) + "0", first + whole(3000) + "0" + whole(-2047) + "0", 3},
		"a time twice":                  {first + short(1) + "0", first + "0" + "0", 2},
		"a time that falls":             {first + short(1) + "0", first + short(-1) + "0", 2},
		"x of 0 in the window":          {window + "0" + "0", window + "0" + "10" + "0000", 3},
		"x of 0 in a new window":        {first + short(1) + "0", first + short(1) + newWindow(31, 33, zeros(33)), 2},
		"no window is there":            {first + short(1) + "0", first + short(1) + "10", 2},
		"no window, bits behind":        {first + short(1) + newWindow(31, 33, zeros(32)+"1"), first + short(1) + "10" + zeros(63) + "1", 2},
		"x in the window told anew":     {window + "0" + "10" + "1001", window + "0" + newWindow(10, 4, "1001"), 3},
		"x in part of the window anew":  {window + "0" + "10" + "0010", window + "0" + newWindow(12, 1, "1"), 3},
		"fewer bits 0 ahead than are":   {first + short(1) + newWindow(10, 4, "1001"), first + short(1) + newWindow(9, 5, "01001"), 2},
		"0 told as ahead, of 40":        {first + short(1) + newWindow(31, 10, "0000000001"), first + short(1) + newWindow(0, 41, zeros(40)+"1"), 2},
		"more bits than need be":        {first + short(1) + newWindow(10, 4, "1001"), first + short(1) + newWindow(10, 5, "10010"), 2},
		"more than 64 bits, by one":     {first + short(1) + newWindow(1, 63, "1"+zeros(61)+"1"), first + short(1) + newWindow(1, 64, "1"+zeros(62)+"1"), 2},
		"more than 64 bits, by most":    {first + short(1) + newWindow(31, 33, zeros(32)+"1"), first + short(1) + newWindow(31, 64, zeros(63)+"1"), 2},
		"more than 64 bits, kept":       {first + short(1) + newWindow(31, 33, zeros(32)+"1") + "0" + "0", first + short(1) + newWindow(31, 64, zeros(63)+"1") + "0" + "10" + zeros(64), 3},
		"a bit left of the last byte":   {first + short(1) + "0", first + short(1) + "0" + "000001", 2},
		"a byte left":                   {first + short(1) + "0", first + short(1) + "0" + zeros(6+8), 2},
		"a byte left behind a full one": {first, first + zeros(8), 1},
		"one, and no chunk":             {first, "", 1},
		"half a first sample":           {first, first[:64], 1},
		"a bit less":                    {first + short(1) + newWindow(0, 64, "1"+zeros(62)+"1"), (first + short(1) + newWindow(0, 64, "1"+zeros(62)+"1"))[:208], 2},
		"only a mark of e":              {first + short(1) + "0", first + "11111111", 2},
	} {
		refuse(t, name, chunkFrame(c.bad, c.samples))
		if b, e := choir.Decode(chunkFrame(c.good, c.samples)); e != api.OK || len(b) != 1 {
			t.Errorf("P4: %s: the one that is right: %v, %d", name, b, e)
		}
	}
}

// The number of samples is not the one that the chunk has.
func TestSamplesMiscounted(t *testing.T) {
	first := firstSample(api.Sample{Time: 1, Bits: 2})
	five := first + short(1) + "0" + "00" + "00" + "00" // fills its last byte
	three := first + short(1) + "0" + short(1) + "0"
	for _, c := range []struct {
		bits    string
		samples int
		want    api.Errno
	}{
		{first, 1, api.OK}, {first, 0, api.ErrFrame}, {first, 2, api.ErrFrame}, {"", 0, api.ErrFrame},
		{five, 5, api.OK}, {five, 6, api.ErrFrame}, {five, 1, api.ErrFrame},
		{three, 3, api.OK}, {three, 2, api.ErrFrame}, {three, 1, api.ErrFrame},
		// What fills up the last byte tells as well samples that go on as before: then it is their chunk.
		{five, 4, api.OK}, {five, 2, api.OK},
	} {
		b, e := choir.Decode(chunkFrame(c.bits, c.samples))
		if e != c.want || e == api.OK && len(b[0].Samples) != c.samples {
			t.Errorf("P4: %d samples, said to be in %s: %v, %d, want %d", c.samples, c.bits, b, e, c.want)
		}
	}
}

func TestPayloadsThatAreNone(t *testing.T) {
	chunk := []piece{number(1), number(16), bytes(bitsToBytes(firstSample(api.Sample{Time: 1, Bits: 2})))}
	with := func(pieces ...piece) []piece { return append(append([]piece{}, pieces...), chunk...) }
	text := func(s string) []piece { return []piece{number(len(s)), bytes(s)} }
	join := func(lists ...[]piece) []piece {
		var out []piece
		for _, l := range lists {
			out = append(out, l...)
		}
		return out
	}
	a, b := text("a"), text("b")
	n := func(list ...int) []piece {
		var out []piece
		for _, k := range list {
			out = append(out, number(k))
		}
		return out
	}
	good := join(n(2), a, b, n(1, 1, 0), with(n(1)...))
	if _, e := choir.Decode(sealed(render(good))); e != api.OK {
		t.Fatalf("P4: the one that is right: %d", e)
	}
	var series9, samples41 []piece
	for i := range 9 {
		series9 = append(series9, with(n(1, 9, i)...)...)
	}
	letters := n(10)
	for i := range 10 {
		letters = append(letters, text(string(rune('a'+i)))...)
	}
	all := firstSample(api.Sample{}) + short(1) + "0" + strings.Repeat("00", 39)
	samples41 = join(n(0, 1, 0, 41, len(bitsToBytes(all))), []piece{bytes(bitsToBytes(all))})
	long := strings.Repeat("k", api.MaxText+1)
	for name, pieces := range map[string][]piece{
		"nothing":                     nil,
		"only texts":                  n(0),
		"something behind":            n(0, 0, 0),
		"a text that stands nowhere":  join(n(1), a, n(0)),
		"one of three stands nowhere": join(n(3), a, b, text("c"), n(1, 1, 0), with(n(1)...)),
		"falling texts":               join(n(2), b, a, n(1, 1, 1), with(n(0)...)),
		"one text twice":              join(n(2), a, a, n(1, 1, 0), with(n(1)...)),
		"no such text":                join(n(2), a, b, n(1, 1, 0), with(n(2)...)),
		"no texts at all":             join(n(0), n(1, 1, 0), with(n(0)...)),
		"fewer texts than said":       join(n(3), a, b, n(1, 1, 0), with(n(1)...)),
		"an empty key":                join(n(2), text(""), a, n(1, 1, 0), with(n(1)...)),
		"a long key":                  join(n(2), a, text(long), n(1, 1, 1), with(n(0)...)),
		"a long value":                join(n(2), a, text(long), n(1, 1, 0), with(n(1)...)),
		"one key twice":               join(n(2), a, b, n(1, 2, 0, 0), with(n(0, 1)...)),
		"falling keys":                join(n(2), a, b, n(1, 2, 1, 0), with(n(0, 1)...)),
		"five labels":                 join(n(5), a, b, text("c"), text("d"), text("e"), n(1, 5, 0, 0, 1, 0, 2, 0, 3, 0), with(n(4, 0)...)),
		"the same series twice":       join(n(0, 2), with(n(0)...), with(n(0)...)),
		"falling series":              join(n(1), a, n(2, 1, 0), with(n(0)...), with(n(0)...)),
		"a series more than said":     join(n(1), a, n(1, 0), chunk, with(n(1, 0, 0)...)),
		"a series less than said":     join(n(0, 2), with(n(0)...)),
		"nine series":                 join(letters, n(9), series9),
		"41 samples":                  samples41,
		"counts that are huge":        n(1<<62, 1<<62),
		"a text that is huge":         n(1, 1<<62),
		"a chunk that is huge":        n(0, 1, 0, 1, 1<<62),
	} {
		refuse(t, name, sealed(render(pieces)))
	}
}

// Every byte of a payload made another, every two exchanged, with a sum that is right.
func TestForgedPayloads(t *testing.T) {
	payload := render(modelPieces(two()))
	for i := range len(payload) {
		for value := range 256 {
			x := []byte(payload)
			x[i] = byte(value)
			onlyFrames(t, sealed(string(x)))
		}
		for k := range i {
			x := []byte(payload)
			x[i], x[k] = x[k], x[i]
			onlyFrames(t, sealed(string(x)))
		}
		onlyFrames(t, sealed(payload[:i]))
	}
}

func TestRandomBytes(t *testing.T) {
	r := rand.New(rand.NewSource(2))
	for range 20000 {
		x := make([]byte, r.Intn(60))
		for i := range x {
			x[i] = byte(r.Intn(256) >> r.Intn(9))
		}
		refuse(t, "random bytes", string(x))
		onlyFrames(t, sealed(string(x)))
	}
}

func FuzzDecode(f *testing.F) {
	f.Add("")
	f.Add(render(modelPieces(nil)))
	f.Add(render(modelPieces(two())))
	f.Add(render(modelPieces(fullest())))
	f.Fuzz(func(t *testing.T, payload string) {
		onlyFrames(t, payload)
		onlyFrames(t, sealed(payload))
	})
}
