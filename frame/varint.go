package frame

// maxVarint is how many bytes of a varint fit an int; no number in a frame needs as many.
const maxVarint = 9

func appendVarint(out []byte, n int) []byte {
	for n > 0x7f {
		out = append(out, byte(n&0x7f|0x80))
		n >>= 7
	}
	return append(out, byte(n))
}

// byteReader reads numbers and texts from the bytes that are left. When it breaks, nothing is left.
type byteReader struct {
	left  string
	state state
}

func (r *byteReader) fail() {
	r.left, r.state = "", broken
}

// number reads a varint, with zeros at its high end or without. It is 0 if there is none or if it is above most.
func (r *byteReader) number(most int) int {
	n := 0
	for i := range min(len(r.left), maxVarint) {
		n |= int(r.left[i]&0x7f) << (7 * i)
		if r.left[i] > 0x7f {
			continue
		}
		if n > most {
			break
		}
		r.left = r.left[i+1:]
		return n
	}
	r.fail()
	return 0
}

// text reads a varint, and so many bytes.
func (r *byteReader) text(most int) string {
	n := r.number(most)
	if n > len(r.left) {
		r.fail()
		return ""
	}
	text := r.left[:n]
	r.left = r.left[n:]
	return text
}
