// Package choir packs measured series, and lets replicas keep them. See DOC.md.
package choir

import (
	"choir/api"
	"choir/batch"
	"choir/frame"
	"choir/join"
)

// Encode packs a batch (P3).
func Encode(b []api.Series) (string, api.Errno) {
	if e := batch.Check(b); e != api.OK {
		return "", e
	}
	return frame.Pack(b), api.OK
}

// Decode reads a batch (P4).
func Decode(s string) ([]api.Series, api.Errno) {
	b, ok := frame.Unpack(s)
	if !ok {
		return nil, api.ErrFrame
	}
	return b, api.OK
}

// Join brings two batches together (P5).
func Join(a []api.Series, b []api.Series) ([]api.Series, api.Errno) {
	if e := batch.Check(a, b); e != api.OK {
		return nil, e
	}
	return join.All(a, b)
}

// Merge brings any number of packed batches together (P6).
func Merge(frames ...string) (string, api.Errno) {
	batches := make([][]api.Series, 0, len(frames))
	for _, s := range frames {
		b, ok := frame.Unpack(s)
		if !ok {
			return "", api.ErrFrame
		}
		batches = append(batches, b)
	}
	joined, e := join.All(batches...)
	if e != api.OK {
		return "", e
	}
	return frame.Pack(joined), api.OK
}

// Cluster is three replicas, and what is under way between them.
type Cluster struct{}

// New makes a cluster (P7).
func New() *Cluster { return nil }

// Write lets a replica take a batch (P8).
func (c *Cluster) Write(r int, b []api.Series) api.Errno { return api.OK }

// Sync makes all last that a replica has taken (P9).
func (c *Cluster) Sync(r int) api.Errno { return api.OK }

// Query tells what a replica has from one time to another (P10).
func (c *Cluster) Query(r int, from int, to int) ([]api.Series, api.Errno) { return nil, api.OK }

// Has: has a replica a series with such a label? (P10)
func (c *Cluster) Has(r int, l api.Label) (bool, api.Errno) { return false, api.OK }

// Log tells a replica's log (P10).
func (c *Cluster) Log(r int) (string, api.Errno) { return "", api.OK }

// Compact makes a replica's log one frame (P11).
func (c *Cluster) Compact(r int) api.Errno { return api.OK }

// Push sends what a replica has to another (P12).
func (c *Cluster) Push(r int, to int) api.Errno { return api.OK }

// Messages tells what is under way (P13).
func (c *Cluster) Messages() []api.Message { return nil }

// Deliver lets a message arrive (P13).
func (c *Cluster) Deliver(i int) api.Errno { return api.OK }

// Drop loses a message (P13).
func (c *Cluster) Drop(i int) api.Errno { return api.OK }

// Twice doubles a message (P13).
func (c *Cluster) Twice(i int) api.Errno { return api.OK }

// Spoil turns bits of a message (P13).
func (c *Cluster) Spoil(i int, at int, mask int) api.Errno { return api.OK }

// Crash takes a replica down (P14).
func (c *Cluster) Crash(r int, keep int) api.Errno { return api.OK }

// Restart brings a replica up (P15).
func (c *Cluster) Restart(r int) api.Errno { return api.OK }
