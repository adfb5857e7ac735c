package choir

import (
	"choir/api"
	"choir/replica"
	"choir/way"
)

// Cluster is three replicas, and what is under way between them.
type Cluster struct {
	replicas [api.Replicas]replica.Replica
	way      way.Way
}

// New makes a cluster (P7).
func New() *Cluster { return &Cluster{} }

// Write lets a replica take a batch (P8).
func (c *Cluster) Write(r int, b []api.Series) api.Errno {
	p, e := c.running(r)
	if e != api.OK {
		return e
	}
	return p.Write(b)
}

// Sync makes all last that a replica has taken (P9).
func (c *Cluster) Sync(r int) api.Errno {
	p, e := c.running(r)
	if e == api.OK {
		p.Sync()
	}
	return e
}

// Query tells what a replica has from one time to another (P10).
func (c *Cluster) Query(r int, from int, to int) ([]api.Series, api.Errno) {
	p, e := c.running(r)
	if e != api.OK {
		return nil, e
	}
	return p.Query(from, to), api.OK
}

// Has: has a replica a series with such a label? (P10)
func (c *Cluster) Has(r int, l api.Label) (bool, api.Errno) {
	p, e := c.running(r)
	if e != api.OK {
		return false, e
	}
	return p.Has(l), api.OK
}

// Log tells a replica's log (P10).
func (c *Cluster) Log(r int) (string, api.Errno) {
	p, e := c.replica(r)
	if e != api.OK {
		return "", e
	}
	return p.Log(), api.OK
}

// Compact makes a replica's log one frame (P11).
func (c *Cluster) Compact(r int) api.Errno {
	p, e := c.running(r)
	if e == api.OK {
		p.Compact()
	}
	return e
}

// Push sends what a replica has to another (P12).
func (c *Cluster) Push(r int, to int) api.Errno {
	p, e := c.running(r)
	if e != api.OK {
		return e
	}
	if !isReplica(to) || to == r {
		return api.ErrArg
	}
	c.way.Put(api.Message{From: r, To: to, Bytes: p.Frame()})
	return api.OK
}

// Messages tells what is under way (P13).
func (c *Cluster) Messages() []api.Message {
	if c == nil {
		return nil
	}
	return c.way.List()
}

// Deliver lets a message arrive (P13).
func (c *Cluster) Deliver(i int) api.Errno {
	m, e := c.take(i)
	if e == api.OK {
		c.replicas[m.To].Receive(m.Bytes)
	}
	return e
}

// Drop loses a message (P13).
func (c *Cluster) Drop(i int) api.Errno {
	_, e := c.take(i)
	return e
}

// Twice doubles a message (P13).
func (c *Cluster) Twice(i int) api.Errno {
	if c == nil {
		return api.ErrReplica
	}
	return c.way.Twice(i)
}

// Spoil turns bits of a message (P13).
func (c *Cluster) Spoil(i int, at int, mask int) api.Errno {
	if c == nil {
		return api.ErrReplica
	}
	return c.way.Spoil(i, at, mask)
}

// Crash takes a replica down (P14).
func (c *Cluster) Crash(r int, keep int) api.Errno {
	p, e := c.running(r)
	if e == api.OK {
		p.Crash(keep)
	}
	return e
}

// Restart brings a replica up (P15).
func (c *Cluster) Restart(r int) api.Errno {
	p, e := c.replica(r)
	if e != api.OK {
		return e
	}
	return p.Restart()
}

func isReplica(r int) bool { return 0 <= r && r < api.Replicas }

// replica answers a replica, up or down; or ErrReplica, also where there is no cluster.
func (c *Cluster) replica(r int) (*replica.Replica, api.Errno) {
	if c == nil || !isReplica(r) {
		return nil, api.ErrReplica
	}
	return &c.replicas[r], api.OK
}

// running answers a replica that is up; or ErrReplica, or ErrDown.
func (c *Cluster) running(r int) (*replica.Replica, api.Errno) {
	p, e := c.replica(r)
	if e == api.OK && !p.IsUp() {
		return nil, api.ErrDown
	}
	return p, e
}

func (c *Cluster) take(i int) (api.Message, api.Errno) {
	if c == nil {
		return api.Message{}, api.ErrReplica
	}
	return c.way.Take(i)
}
