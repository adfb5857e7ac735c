package frame

import (
	"hash/crc32"
	"strings"
	"testing"
)

func TestSum(t *testing.T) {
	if n := sum("123456789"); n != 0xE3069283 {
		t.Errorf("the sum that CRC-32C is known by: %x", n)
	}
	table := crc32.MakeTable(crc32.Castagnoli)
	for n := range 300 {
		s := strings.Repeat("\x00a\xff", n)
		if got, want := sum(s), crc32.Checksum([]byte(s), table); got != want {
			t.Errorf("sum of %d bytes: %x, want %x", len(s), got, want)
		}
	}
}

func TestVarint(t *testing.T) {
	for _, c := range []struct {
		n    int
		want string
	}{
		{0, "\x00"}, {1, "\x01"}, {127, "\x7f"}, {128, "\x80\x01"}, {300, "\xac\x02"}, {16383, "\xff\x7f"}, {16384, "\x80\x80\x01"},
	} {
		if got := string(appendVarint(nil, c.n)); got != c.want {
			t.Errorf("%d: %x, want %x", c.n, got, c.want)
		}
		r := byteReader{left: c.want + "x"}
		if got := r.number(c.n); got != c.n || r.left != "x" || r.state != reading {
			t.Errorf("%x: %d, %q is left", c.want, got, r.left)
		}
		r = byteReader{left: c.want + "x"}
		if got := r.number(c.n - 1); got != 0 || r.left != "" || r.state != broken {
			t.Errorf("%x is above %d: %d, %q is left", c.want, c.n-1, got, r.left)
		}
	}
}

func TestBitReaderStaysBroken(t *testing.T) {
	r := bitReader{bytes: "\xa5"}
	if n := r.take(4); n != 0xa || r.state != reading {
		t.Errorf("four bits: %x", n)
	}
	if n := r.take(5); n != 0 || r.state != broken {
		t.Errorf("five of four bits: %x", n)
	}
	if r.take(4); r.state != broken {
		t.Error("it reads on")
	}
}
