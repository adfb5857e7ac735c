// Package replica is one of those that keep series: what it has, and the log from which it has it again.
package replica

import (
	"choir/api"
	"choir/batch"
	"choir/frame"
	"choir/join"
)

type state int

// up is counted first, so that the zero value is a new replica.
const (
	up state = iota
	down
)

// Replica is up, without series and with an empty log, as long as nothing is done to it. None of what it points to is ever changed, so that a copy shares nothing that can be seen.
type Replica struct {
	state   state
	series  []api.Series
	log     log
	lasting int // how many bytes of the log last, from the first on
}

// IsUp: the calls below, but for Log, Receive and Restart, are for one that is.
func (r *Replica) IsUp() bool { return r.state == up }

// Write takes a batch.
func (r *Replica) Write(b []api.Series) api.Errno {
	if e := batch.Check(b); e != api.OK {
		return e
	}
	joined, e := join.All(r.series, b)
	if e != api.OK {
		return e
	}
	if !batch.Same(joined, r.series) {
		r.series = joined
		r.log = r.log.with(frame.Pack(b))
	}
	return api.OK
}

// Receive takes what comes from another; what can't be taken is passed over, for nobody is there to be told.
func (r *Replica) Receive(s string) {
	if !r.IsUp() {
		return
	}
	if b, ok := frame.Unpack(s); ok {
		r.Write(b)
	}
}

// Sync makes all of the log last.
func (r *Replica) Sync() { r.lasting = r.log.size }

// Query answers the samples from one time to another, with their series.
func (r *Replica) Query(from, to int) []api.Series {
	var found []api.Series
	for _, s := range r.series {
		if samples := between(s.Samples, from, to); len(samples) > 0 {
			found = append(found, api.Series{Labels: batch.CopyLabels(s.Labels), Samples: samples})
		}
	}
	return found
}

func between(samples []api.Sample, from, to int) []api.Sample {
	var found []api.Sample
	for _, x := range samples {
		if from <= x.Time && x.Time <= to {
			found = append(found, x)
		}
	}
	return found
}

// Log answers all of the log.
func (r *Replica) Log() string { return r.log.String() }

// Frame answers the frame of all that the replica has.
func (r *Replica) Frame() string { return frame.Pack(r.series) }

// Compact makes the log no longer than what it tells.
func (r *Replica) Compact() {
	r.log = log{}
	if len(r.series) > 0 {
		r.log = r.log.with(r.Frame())
	}
	r.Sync()
}

// Crash takes the replica down; of what does not last, keep bytes are left.
func (r *Replica) Crash(keep int) {
	kept := min(max(keep, 0), r.log.size-r.lasting)
	left := r.Log()[:r.lasting+kept]
	*r = Replica{state: down, log: log{}.with(left), lasting: len(left)}
}

// Restart brings the replica up, or answers ErrUp.
func (r *Replica) Restart() api.Errno {
	if r.IsUp() {
		return api.ErrUp
	}
	all := r.Log()
	batches, size := frame.UnpackRow(all)
	// No error can come of it: the replica has had all of this together.
	series, _ := join.All(batches...)
	*r = Replica{series: series, log: log{}.with(all[:size]), lasting: size}
	return api.OK
}
