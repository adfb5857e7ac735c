package replica

// log is bytes that only ever grow at their end. Its parts are never changed, so that neither growing nor copying it touches what is there.
type log struct {
	last *part
	size int
}

type part struct {
	ahead *part
	bytes string
}

func (l log) with(bytes string) log {
	return log{last: &part{ahead: l.last, bytes: bytes}, size: l.size + len(bytes)}
}

func (l log) String() string {
	all := make([]byte, l.size)
	end := l.size
	for p := l.last; p != nil; p = p.ahead {
		end -= len(p.bytes)
		copy(all[end:], p.bytes)
	}
	return string(all)
}
