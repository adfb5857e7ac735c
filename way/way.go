// Package way holds the messages that are under way, and what can happen to them there.
package way

import (
	"slices"
	"strings"

	"choir/api"
)

type state int

const (
	whole state = iota
	spoilt
)

type message struct {
	api.Message
	state state
}

// Way is what is under way, in its order; nothing, as long as nothing was put there. It is an array, so that a copy shares nothing with it.
type Way struct {
	messages [api.MaxMessages]message
	count    int
}

// Put puts a message at the end. It is lost if there are MaxMessages already.
func (w *Way) Put(m api.Message) { w.put(message{Message: m}) }

func (w *Way) put(m message) {
	if w.count < len(w.messages) {
		w.messages[w.count] = m
		w.count++
	}
}

// List answers all messages, in new memory.
func (w *Way) List() []api.Message {
	list := make([]api.Message, 0, w.count)
	for _, m := range w.messages[:w.count] {
		list = append(list, api.Message{From: m.From, To: m.To, Bytes: strings.Clone(m.Bytes)})
	}
	return list
}

// Take takes out message i, or answers ErrMessage.
func (w *Way) Take(i int) (api.Message, api.Errno) {
	if !w.isThere(i) {
		return api.Message{}, api.ErrMessage
	}
	taken := w.messages[i].Message
	w.count = len(slices.Delete(w.messages[:w.count], i, i+1))
	return taken, api.OK
}

// Twice puts a copy of message i at the end, or answers ErrMessage. A copy of a spoilt one is spoilt too.
func (w *Way) Twice(i int) api.Errno {
	if !w.isThere(i) {
		return api.ErrMessage
	}
	w.put(w.messages[i])
	return api.OK
}

// Spoil turns bits of message i, once at most; or answers ErrMessage or ErrArg.
func (w *Way) Spoil(i, at, mask int) api.Errno {
	if !w.isThere(i) || w.messages[i].state == spoilt {
		return api.ErrMessage
	}
	m := &w.messages[i]
	if at < 0 || at >= 8*len(m.Bytes) || uint32(mask) == 0 {
		return api.ErrArg
	}
	m.Bytes = turn(m.Bytes, at, uint32(mask))
	m.state = spoilt
	return api.OK
}

func (w *Way) isThere(i int) bool { return 0 <= i && i < w.count }

// turn turns bit at + k of s for each bit k of mask, as far as s has it.
func turn(s string, at int, mask uint32) string {
	turned := []byte(s)
	for k := range min(32, 8*len(turned)-at) {
		bit := at + k
		turned[bit/8] ^= byte(mask>>k&1) << (bit % 8)
	}
	return string(turned)
}
