package replica

import (
	"sync"

	"choir/api"
)

// Has: is there a series with that label? Each series is looked through by a goroutine of its own; who finds the label first closes done, and the others stop.
func (r *Replica) Has(l api.Label) bool {
	done := make(chan struct{})
	var first sync.Once
	var workers sync.WaitGroup
	for _, s := range r.series {
		workers.Go(func() {
			if hasLabel(s.Labels, l, done) {
				first.Do(func() { close(done) })
			}
		})
	}
	workers.Wait()
	return isClosed(done)
}

// hasLabel may answer false once done is closed, for then it does not matter any more.
func hasLabel(labels []api.Label, l api.Label, done <-chan struct{}) bool {
	for _, have := range labels {
		if isClosed(done) {
			return false
		}
		if have == l {
			return true
		}
	}
	return false
}

func isClosed(done <-chan struct{}) bool {
	select {
	case <-done:
		return true
	default:
		return false
	}
}
