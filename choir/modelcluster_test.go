package choir_test

// A second telling of the document's words on the cluster, to hold the program against. It knows of every message and of every part of a log which batch it is of, so it never reads a frame.

import (
	"strings"

	"choir/api"
)

type modelEntry struct {
	batch []api.Series
	frame string
}

type modelReplica struct {
	down    bool
	has     []api.Series
	log     []modelEntry
	rest    string // bytes behind the last whole frame of the log
	lasting int
}

type modelMessage struct {
	api.Message
	batch  []api.Series
	spoilt bool
	turned bool
}

type modelCluster struct {
	replicas [3]modelReplica
	way      []modelMessage
}

func (p *modelReplica) text() string {
	var out strings.Builder
	for _, e := range p.log {
		out.WriteString(e.frame)
	}
	return out.String() + p.rest
}

// callable: what P7 answers ahead of all else.
func (m *modelCluster) callable(r int) api.Errno {
	switch {
	case r != 0 && r != 1 && r != 2:
		return api.ErrReplica
	case m.replicas[r].down:
		return api.ErrDown
	}
	return api.OK
}

// write: bad says that b is no batch.
func (m *modelCluster) write(r int, b []api.Series, bad bool) api.Errno {
	if e := m.callable(r); e != api.OK {
		return e
	}
	if bad {
		return api.ErrBatch
	}
	p := &m.replicas[r]
	joined := modelJoin(p.has, b)
	if modelLimit(b) != api.OK || modelLimit(joined) != api.OK {
		return api.ErrLimit
	}
	if !same(joined, p.has) {
		p.has = joined
		p.log = append(p.log, modelEntry{b, modelFrame(b)})
	}
	return api.OK
}

func (m *modelCluster) sync(r int) api.Errno {
	e := m.callable(r)
	if e == api.OK {
		m.replicas[r].lasting = len(m.replicas[r].text())
	}
	return e
}

func (m *modelCluster) query(r, from, to int) ([]api.Series, api.Errno) {
	if e := m.callable(r); e != api.OK {
		return nil, e
	}
	var found []api.Series
	for _, s := range m.replicas[r].has {
		picked := api.Series{Labels: s.Labels}
		for _, x := range s.Samples {
			if x.Time >= from && x.Time <= to {
				picked.Samples = append(picked.Samples, x)
			}
		}
		if picked.Samples != nil {
			found = append(found, picked)
		}
	}
	return found, api.OK
}

func (m *modelCluster) hasLabel(r int, l api.Label) (bool, api.Errno) {
	if e := m.callable(r); e != api.OK {
		return false, e
	}
	for _, s := range m.replicas[r].has {
		for _, x := range s.Labels {
			if x.Key == l.Key && x.Value == l.Value {
				return true, api.OK
			}
		}
	}
	return false, api.OK
}

func (m *modelCluster) logOf(r int) (string, api.Errno) {
	if m.callable(r) == api.ErrReplica {
		return "", api.ErrReplica
	}
	return m.replicas[r].text(), api.OK
}

func (m *modelCluster) compact(r int) api.Errno {
	e := m.callable(r)
	if e == api.OK {
		p := &m.replicas[r]
		p.log = nil
		if len(p.has) > 0 {
			p.log = []modelEntry{{p.has, modelFrame(p.has)}}
		}
		p.lasting = len(p.text())
	}
	return e
}

func (m *modelCluster) push(r, to int) api.Errno {
	if e := m.callable(r); e != api.OK {
		return e
	}
	if to == r || m.callable(to) == api.ErrReplica {
		return api.ErrArg
	}
	b := m.replicas[r].has
	m.send(modelMessage{Message: api.Message{From: r, To: to, Bytes: modelFrame(b)}, batch: b})
	return api.OK
}

func (m *modelCluster) send(x modelMessage) {
	if len(m.way) < 30 {
		m.way = append(m.way, x)
	}
}

func (m *modelCluster) messages() []api.Message {
	var list []api.Message
	for _, x := range m.way {
		list = append(list, x.Message)
	}
	return list
}

func (m *modelCluster) drop(i int) api.Errno {
	if i < 0 || i >= len(m.way) {
		return api.ErrMessage
	}
	var left []modelMessage
	for k, x := range m.way {
		if k != i {
			left = append(left, x)
		}
	}
	m.way = left
	return api.OK
}

func (m *modelCluster) deliver(i int) api.Errno {
	if i < 0 || i >= len(m.way) {
		return api.ErrMessage
	}
	x := m.way[i]
	m.drop(i)
	if !x.turned {
		m.write(x.To, x.batch, false)
	}
	return api.OK
}

func (m *modelCluster) twice(i int) api.Errno {
	if i < 0 || i >= len(m.way) {
		return api.ErrMessage
	}
	m.send(m.way[i])
	return api.OK
}

func (m *modelCluster) spoil(i, at, mask int) api.Errno {
	if i < 0 || i >= len(m.way) || m.way[i].spoilt {
		return api.ErrMessage
	}
	x := &m.way[i]
	if at < 0 || at > 8*len(x.Bytes)-1 || mask&0xFFFFFFFF == 0 {
		return api.ErrArg
	}
	x.Bytes, x.turned = turned(x.Bytes, at, uint32(mask&0xFFFFFFFF))
	x.spoilt = true
	return api.OK
}

func (m *modelCluster) crash(r, keep int) api.Errno {
	e := m.callable(r)
	if e != api.OK {
		return e
	}
	p := &m.replicas[r]
	all := p.text()
	end := p.lasting
	for keep > 0 && end < len(all) {
		keep--
		end++
	}
	left := modelReplica{down: true, lasting: end}
	at := 0
	for _, x := range p.log {
		if at+len(x.frame) > end {
			break
		}
		left.log = append(left.log, x)
		at += len(x.frame)
	}
	left.rest = all[at:end]
	*p = left
	return api.OK
}

func (m *modelCluster) restart(r int) api.Errno {
	switch m.callable(r) {
	case api.ErrReplica:
		return api.ErrReplica
	case api.OK:
		return api.ErrUp
	}
	p := &m.replicas[r]
	p.down, p.rest = false, ""
	p.lasting = len(p.text())
	for _, x := range p.log {
		p.has = modelJoin(p.has, x.batch)
	}
	return api.OK
}
