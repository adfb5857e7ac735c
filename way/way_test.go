package way

import (
	"testing"
	"unsafe"

	"choir/api"
)

func TestTurn(t *testing.T) {
	for _, x := range []struct {
		at   int
		mask uint32
		want string
	}{
		{0, 1, "\x01\x00\x00\x00\x00"},
		{7, 1, "\x80\x00\x00\x00\x00"},
		{8, 1, "\x00\x01\x00\x00\x00"},
		{7, 3, "\x80\x01\x00\x00\x00"},
		{4, 0xFFFFFFFF, "\xf0\xff\xff\xff\x0f"},
		{0, 0x80000001, "\x01\x00\x00\x80\x00"},
		{8, 0x80000000, "\x00\x00\x00\x00\x80"},
		{9, 0x80000000, "\x00\x00\x00\x00\x00"},
		{39, 0xFFFFFFFF, "\x00\x00\x00\x00\x80"},
		{39, 0xFFFFFFFE, "\x00\x00\x00\x00\x00"},
	} {
		if got := turn("\x00\x00\x00\x00\x00", x.at, x.mask); got != x.want {
			t.Errorf("at %d by %x: %x, want %x", x.at, x.mask, got, x.want)
		}
		if back := turn(x.want, x.at, x.mask); back != "\x00\x00\x00\x00\x00" {
			t.Errorf("at %d by %x, twice: %x", x.at, x.mask, back)
		}
	}
}

// What is taken out is not held any longer.
func TestTakenIsForgotten(t *testing.T) {
	var w Way
	for _, s := range []string{"a", "b", "c"} {
		w.Put(api.Message{To: 1, Bytes: s})
	}
	w.Spoil(1, 0, 1)
	for range 3 {
		w.Take(0)
	}
	if w != (Way{}) {
		t.Errorf("%+v", w)
	}
}

// The texts of an answer are new memory too.
func TestListedTextsAreNew(t *testing.T) {
	var w Way
	w.Put(api.Message{Bytes: "bytes"})
	w.Twice(0)
	l := w.List()
	kept := unsafe.StringData(w.messages[0].Bytes)
	first, second := unsafe.StringData(l[0].Bytes), unsafe.StringData(l[1].Bytes)
	if first == kept || second == kept || first == second {
		t.Error("P2: two share a text")
	}
}

// A message without bytes has no bit that could be turned; no push sends one.
func TestSpoilOfNothing(t *testing.T) {
	var w Way
	w.Put(api.Message{})
	if e := w.Spoil(0, 0, 1); e != api.ErrArg {
		t.Errorf("%d", e)
	}
}
