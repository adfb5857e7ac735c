// Package choir packs measured series, and lets replicas keep them. See DOC.md.
package choir

import (
	"choir/api"
	"choir/batch"
	"choir/frame"
	"choir/join"
)

// Encode packs a batch (P3).
func Encode(b []api.Series) (string, api.Errno) {
	if e := batch.Check(b); e != api.OK {
		return "", e
	}
	return frame.Pack(b), api.OK
}

// Decode reads a batch (P4).
func Decode(s string) ([]api.Series, api.Errno) {
	b, ok := frame.Unpack(s)
	if !ok {
		return nil, api.ErrFrame
	}
	return b, api.OK
}

// Join brings two batches together (P5).
func Join(a []api.Series, b []api.Series) ([]api.Series, api.Errno) {
	if e := batch.Check(a, b); e != api.OK {
		return nil, e
	}
	return join.All(a, b)
}

// Merge brings any number of packed batches together (P6).
func Merge(frames ...string) (string, api.Errno) {
	batches := make([][]api.Series, 0, len(frames))
	for _, s := range frames {
		b, ok := frame.Unpack(s)
		if !ok {
			return "", api.ErrFrame
		}
		batches = append(batches, b)
	}
	joined, e := join.All(batches...)
	if e != api.OK {
		return "", e
	}
	return frame.Pack(joined), api.OK
}
