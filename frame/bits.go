package frame

// state is how the reading of packed bytes goes. It stays broken once it is so: whoever reads need ask only at the end.
type state int

const (
	reading state = iota
	broken
)

// A way is one of several in which a number is told. The ways of one kind are counted from 0 on, and a way's number is how many ones its mark has.
type way int

// bitWriter fills bytes from the highest bit on.
type bitWriter struct {
	bytes []byte
	size  int // in bits
}

func (w *bitWriter) putBit(bit byte) {
	if w.size%8 == 0 {
		w.bytes = append(w.bytes, 0)
	}
	w.bytes[w.size/8] |= bit << (7 - w.size%8)
	w.size++
}

// put writes the lowest bits of n, as many as width says.
func (w *bitWriter) put(n uint64, width int) {
	for i := width - 1; i >= 0; i-- {
		w.putBit(byte(n >> i & 1))
	}
}

// putMark writes the mark of a way: its ones, and a zero, which the last way does without.
func (w *bitWriter) putMark(v, last way) {
	for range int(v) {
		w.putBit(1)
	}
	if v < last {
		w.putBit(0)
	}
}

// bitReader reads what a bitWriter wrote.
type bitReader struct {
	bytes string
	at    int // in bits
	state state
}

// take reads a number of so many bits; it is 0 if there are fewer left.
func (r *bitReader) take(width int) uint64 {
	if width > 8*len(r.bytes)-r.at {
		r.state = broken
		return 0
	}
	n := uint64(0)
	for range width {
		bit := r.bytes[r.at/8] >> (7 - r.at%8) & 1
		n = n<<1 | uint64(bit)
		r.at++
	}
	return n
}

func (r *bitReader) takeMark(last way) way {
	v := way(0)
	for v < last && r.take(1) == 1 {
		v++
	}
	return v
}
