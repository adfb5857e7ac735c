// Package frame packs a batch within limits into bytes, in just one way, and reads it back.
package frame

import (
	"choir/api"
	"choir/batch"
)

const (
	mark     = "CH\x01"
	headSize = len(mark) + 4
	sumSize  = 4
)

// Pack answers the frame of a batch that is within limits.
func Pack(b []api.Series) string {
	payload := packPayload(b)
	n := len(payload)
	out := append([]byte(mark), byte(n>>24), byte(n>>16), byte(n>>8), byte(n))
	out = append(out, payload...)
	return string(append(out, sumBytes(string(out))...))
}

func sumBytes(s string) []byte {
	n := sum(s)
	return []byte{byte(n), byte(n >> 8), byte(n >> 16), byte(n >> 24)}
}

// Unpack answers the batch of which s is the frame, and whether there is one.
func Unpack(s string) ([]api.Series, bool) {
	payload, ok := open(s)
	if !ok {
		return nil, false
	}
	b, outcome := unpackPayload(payload)
	if outcome == broken || batch.Check(b) != api.OK {
		return nil, false
	}
	// Packing it again is what makes the frame of a batch the only one.
	if string(packPayload(b)) != payload {
		return nil, false
	}
	return b, true
}

// UnpackRow answers the batches of the longest beginning of s that is frames, one behind the other, and how many bytes that beginning has.
func UnpackRow(s string) ([][]api.Series, int) {
	var batches [][]api.Series
	size := 0
	for {
		first := firstFrame(s[size:])
		b, ok := Unpack(first)
		if !ok {
			return batches, size
		}
		batches = append(batches, b)
		size += len(first)
	}
}

// firstFrame answers the only beginning of s that can be a frame, for a frame's head tells its length; nothing, if there is none.
func firstFrame(s string) string {
	if len(s) < headSize {
		return ""
	}
	size := headSize + payloadSize(s) + sumSize
	if len(s) < size {
		return ""
	}
	return s[:size]
}

// open answers the payload, if what stands around it is right.
func open(s string) (string, bool) {
	end := len(s) - sumSize
	if end < headSize || s[:len(mark)] != mark || payloadSize(s) != end-headSize {
		return "", false
	}
	if s[end:] != string(sumBytes(s[:end])) {
		return "", false
	}
	return s[headSize:end], true
}

func payloadSize(s string) int {
	n := 0
	for i := len(mark); i < headSize; i++ {
		n = n<<8 | int(s[i])
	}
	return n
}
