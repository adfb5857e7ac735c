package frame

import (
	"math/bits"

	"choir/api"
)

// The ways to tell e, how far the step to a sample's time differs from the step ahead.
const (
	stepSame way = iota
	stepShort
	stepMiddle
	stepLong
	stepWhole
)

// The ways to tell x, in which bits a sample differs from the one ahead.
const (
	bitsSame way = iota
	bitsInWindow
	bitsInNewWindow
)

// stepRule: e is told as e + shift, in width bits.
type stepRule struct {
	width int
	shift uint64
}

// stepRules stand in the order of the ways.
var stepRules = [...]stepRule{{0, 0}, {7, 63}, {9, 255}, {12, 2047}, {64, 0}}

func stepWay(e uint64) way {
	for v := stepSame; v < stepWhole; v++ {
		if e+stepRules[v].shift < 1<<stepRules[v].width {
			return v
		}
	}
	return stepWhole
}

// The numbers by which a new window is told, and the most that can stand in the first.
const (
	aheadWidth = 5
	sizeWidth  = 6
	maxAhead   = 1<<aheadWidth - 1
)

// window is a run of the 64 bits of x: so many bits are ahead of it, so many in it. Without bits, there is none.
type window struct {
	ahead, size int
}

func newWindow(x uint64) window {
	ahead := min(bits.LeadingZeros64(x), maxAhead)
	return window{ahead, 64 - ahead - bits.TrailingZeros64(x)}
}

func (w window) behind() int { return 64 - w.ahead - w.size }

func (w window) holds(x uint64) bool {
	return w.size > 0 && bits.LeadingZeros64(x) >= w.ahead && bits.TrailingZeros64(x) >= w.behind()
}

func (w window) wayOf(x uint64) way {
	switch {
	case x == 0:
		return bitsSame
	case w.holds(x):
		return bitsInWindow
	}
	return bitsInNewWindow
}

// past is what the next sample is told against.
type past struct {
	time, step, bits uint64
	window           window
}

type packer struct {
	out  bitWriter
	past past
}

// packChunk packs at least one sample.
func packChunk(samples []api.Sample) []byte {
	p := packer{past: past{time: uint64(samples[0].Time), bits: samples[0].Bits}}
	p.out.put(p.past.time, 64)
	p.out.put(p.past.bits, 64)
	for _, s := range samples[1:] {
		p.putTime(uint64(s.Time))
		p.putBits(s.Bits)
	}
	return p.out.bytes
}

func (p *packer) putTime(time uint64) {
	step := time - p.past.time
	e := step - p.past.step
	v := stepWay(e)
	p.out.putMark(v, stepWhole)
	p.out.put(e+stepRules[v].shift, stepRules[v].width)
	p.past.time, p.past.step = time, step
}

func (p *packer) putBits(all uint64) {
	x := all ^ p.past.bits
	v := p.past.window.wayOf(x)
	p.out.putMark(v, bitsInNewWindow)
	if v == bitsInNewWindow {
		p.putWindow(newWindow(x))
	}
	if v != bitsSame {
		p.out.put(x>>p.past.window.behind(), p.past.window.size)
	}
	p.past.bits = all
}

func (p *packer) putWindow(w window) {
	p.out.put(uint64(w.ahead), aheadWidth)
	p.out.put(uint64(w.size-1), sizeWidth)
	p.past.window = w
}

type unpacker struct {
	in   bitReader
	past past
}

// unpackChunk reads so many samples, at least one. It takes more than packChunk makes (a number told in another way than the one it must be told in, or something left behind the last): whoever calls it holds the samples, packed again, against the chunk.
func unpackChunk(chunk string, count int) ([]api.Sample, state) {
	u := unpacker{in: bitReader{bytes: chunk}}
	u.past.time = u.in.take(64)
	u.past.bits = u.in.take(64)
	samples := make([]api.Sample, 0, count)
	samples = append(samples, u.sample())
	for len(samples) < count {
		u.takeTime()
		u.takeBits()
		samples = append(samples, u.sample())
	}
	return samples, u.in.state
}

func (u *unpacker) sample() api.Sample {
	return api.Sample{Time: int(u.past.time), Bits: u.past.bits}
}

func (u *unpacker) takeTime() {
	v := u.in.takeMark(stepWhole)
	u.past.step += u.in.take(stepRules[v].width) - stepRules[v].shift
	u.past.time += u.past.step
}

func (u *unpacker) takeBits() {
	v := u.in.takeMark(bitsInNewWindow)
	if v == bitsInNewWindow {
		u.takeWindow()
	}
	if v != bitsSame {
		u.past.bits ^= u.in.take(u.past.window.size) << u.past.window.behind()
	}
}

func (u *unpacker) takeWindow() {
	w := window{ahead: int(u.in.take(aheadWidth))}
	w.size = int(u.in.take(sizeWidth)) + 1
	if w.behind() < 0 {
		u.in.state = broken
		w = window{}
	}
	u.past.window = w
}
