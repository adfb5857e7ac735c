package frame

import (
	"hash/crc32"
	"strings"
	"testing"

	"choir/api"
	"choir/batch"
)

func TestSum(t *testing.T) {
	if n := sum("123456789"); n != 0xE3069283 {
		t.Errorf("the sum that CRC-32C is known by: %x", n)
	}
	table := crc32.MakeTable(crc32.Castagnoli)
	for n := range 300 {
		s := strings.Repeat("\x00a\xff", n)
		if got, want := sum(s), crc32.Checksum([]byte(s), table); got != want {
			t.Errorf("sum of %d bytes: %x, want %x", len(s), got, want)
		}
	}
}

func TestVarint(t *testing.T) {
	for _, c := range []struct {
		n    int
		want string
	}{
		{0, "\x00"}, {1, "\x01"}, {127, "\x7f"}, {128, "\x80\x01"}, {300, "\xac\x02"}, {16383, "\xff\x7f"}, {16384, "\x80\x80\x01"},
	} {
		if got := string(appendVarint(nil, c.n)); got != c.want {
			t.Errorf("%d: %x, want %x", c.n, got, c.want)
		}
		r := byteReader{left: c.want + "x"}
		if got := r.number(c.n); got != c.n || r.left != "x" || r.state != reading {
			t.Errorf("%x: %d, %q is left", c.want, got, r.left)
		}
		r = byteReader{left: c.want + "x"}
		if got := r.number(c.n - 1); got != 0 || r.left != "" || r.state != broken {
			t.Errorf("%x is above %d: %d, %q is left", c.want, c.n-1, got, r.left)
		}
	}
}

func TestBitReaderStaysBroken(t *testing.T) {
	r := bitReader{bytes: "\xa5"}
	if n := r.take(4); n != 0xa || r.state != reading {
		t.Errorf("four bits: %x", n)
	}
	if n := r.take(5); n != 0 || r.state != broken {
		t.Errorf("five of four bits: %x", n)
	}
	if r.take(4); r.state != broken {
		t.Error("it reads on")
	}
}

func TestUnpackRow(t *testing.T) {
	one := []api.Series{{Samples: []api.Sample{{Time: 1, Bits: 2}}}}
	other := []api.Series{{Labels: []api.Label{{Key: "a", Value: "b"}}, Samples: []api.Sample{{Time: 3}, {Time: 4}}}}
	batches := [][]api.Series{one, other, nil, one}
	all := ""
	ends := []int{0}
	for _, b := range batches {
		all += Pack(b)
		ends = append(ends, len(all))
	}
	for cut := range len(all) + 1 {
		// What comes behind the cut must not matter, but where it is a frame again.
		for _, behind := range []string{"", "C", "CH\x01\xff\xff\xff\xff", "CH\x01\x80\x00\x00\x00\x00\x00\x00\x00\x00"} {
			got, size := UnpackRow(all[:cut] + behind)
			count := 0
			for count < len(batches) && ends[count+1] <= cut {
				count++
			}
			if size != ends[count] || len(got) != count {
				t.Fatalf("%d bytes and %x: %d batches of %d bytes", cut, behind, len(got), size)
			}
			for i, b := range got {
				if !batch.Same(b, batches[i]) {
					t.Errorf("batch %d: %v", i, b)
				}
			}
		}
	}
	// One that is no frame ends the row, whole ones behind it or not.
	spoilt := "x" + all[1:]
	if got, size := UnpackRow(spoilt); len(got) != 0 || size != 0 {
		t.Errorf("%d batches of %d bytes", len(got), size)
	}
	middle := all[:ends[1]+8] + "x" + all[ends[1]+9:]
	if got, size := UnpackRow(middle); len(got) != 1 || size != ends[1] {
		t.Errorf("%d batches of %d bytes", len(got), size)
	}
}
