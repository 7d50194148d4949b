package dump_test

import (
	"math"
	"strings"
	"testing"

	"signpost/api"
	"signpost/dump"
	"signpost/table"
)

// P7.1: dumps, byte by byte, both ways.
func TestDumps(t *testing.T) {
	all := strings.Repeat("\xff", 16)
	for _, c := range []struct {
		what string
		list []api.Route
		want string
	}{
		{"the example", []api.Route{way(four(10, 0, 0, 0, 8), 1, 0), way(four(10, 1, 0, 0, 16), 2, 0)}, "\x02" + "\x00\x02\x08\x0a\x01\x00" + "\x00\x03\x10\x0a\x01\x02\x00"},
		{"no routes", nil, "\x00"},
		{"one of four bytes, length 0", []api.Route{way(api.Prefix{}, 0, 0)}, "\x01" + "\x00\x01\x00\x00\x00"},
		{"one of sixteen, length 0", []api.Route{way(six("", 0), 0, 0)}, "\x01" + "\x00\x01\x40\x00\x00"},
		{"length 32", []api.Route{way(four(255, 255, 255, 255, 32), 7, 8)}, "\x01" + "\x00\x05\x20\xff\xff\xff\xff\x07\x08"},
		{"length 128, a text of 17 bytes", []api.Route{way(six(all, 128), 7, 8)}, "\x01" + "\x00\x11\xc0" + all + "\x07\x08"},
		{"both kinds, next to one another", []api.Route{way(four(255, 0, 0, 0, 8), 1, 2), way(six("", 0), 3, 4)}, "\x02" + "\x00\x02\x08\xff\x01\x02" + "\x00\x01\x40\x03\x04"},
		{"both of length 0", []api.Route{way(api.Prefix{}, 1, 2), way(six("", 0), 3, 4)}, "\x02" + "\x00\x01\x00\x01\x02" + "\x00\x01\x40\x03\x04"},
		{"the same address, but not the first byte: nothing in common", []api.Route{way(four(10, 0, 0, 0, 7), 1, 1), way(four(10, 0, 0, 0, 8), 1, 1)}, "\x02" + "\x00\x02\x07\x0a\x01\x01" + "\x00\x02\x08\x0a\x01\x01"},
		{"the first byte in common", []api.Route{way(four(9, 0, 0, 0, 8), 1, 1), way(four(10, 0, 0, 0, 8), 1, 1)}, "\x02" + "\x00\x02\x08\x09\x01\x01" + "\x01\x01\x0a\x01\x01"},
		{"some in common, and some again behind", []api.Route{way(four(10, 1, 7, 7, 32), 1, 1), way(four(10, 2, 7, 7, 32), 1, 1)}, "\x02" + "\x00\x05\x20\x0a\x01\x07\x07\x01\x01" + "\x02\x03\x02\x07\x07\x01\x01"},
		{"all but one in common", []api.Route{way(four(10, 1, 7, 7, 32), 1, 1), way(four(10, 1, 7, 8, 32), 1, 1)}, "\x02" + "\x00\x05\x20\x0a\x01\x07\x07\x01\x01" + "\x04\x01\x08\x01\x01"},
		{"all but one of seventeen", []api.Route{way(six(all[:15]+"\xfe", 128), 1, 1), way(six(all, 128), 1, 1)}, "\x02" + "\x00\x11\xc0" + all[:15] + "\xfe\x01\x01" + "\x10\x01\xff\x01\x01"},
		{"in common with the one ahead, not with one farther ahead", []api.Route{way(four(9, 0, 0, 0, 8), 1, 1), way(four(9, 1, 0, 0, 16), 1, 1), way(four(10, 0, 0, 0, 8), 1, 1)}, "\x03" + "\x00\x02\x08\x09\x01\x01" + "\x00\x03\x10\x09\x01\x01\x01" + "\x00\x02\x08\x0a\x01\x01"},
		{"the greatest metric", []api.Route{way(api.Prefix{}, 65534, 0)}, "\x01" + "\x00\x01\x00\xfe\xff\x03\x00"},
		{"the greatest number", []api.Route{way(api.Prefix{}, 0, math.MaxUint32)}, "\x01" + "\x00\x01\x00\x00\xff\xff\xff\xff\x0f"},
		{"numbers of two bytes", []api.Route{way(api.Prefix{}, 128, 300)}, "\x01" + "\x00\x01\x00\x80\x01\xac\x02"},
	} {
		x := of(t, c.list...)
		if got := dump.Print(x); got != c.want {
			t.Errorf("%s: %x, not %x", c.what, got, c.want)
		}
		if y, err := dump.Read(c.want); err != api.OK || y == nil || !table.Same(x, y) {
			t.Errorf("%s: error %d", c.what, err)
		}
		hold(t, c.want)
	}
}

// P7.1: there is no table.
func TestPrintOfNil(t *testing.T) {
	if s := dump.Print(nil); s != "\x00" {
		t.Errorf("%x", s)
	}
	if s := dump.Print(&table.Table{}); s != "\x00" {
		t.Errorf("%x", s)
	}
}

// P7.1: 300 routes, which is the most there may be: how many is a number of two bytes.
func TestPrintOfAFullTable(t *testing.T) {
	for _, n := range []int{127, 128, 299, 300} {
		x := of(t, many(n)...)
		s := dump.Print(x)
		if !strings.HasPrefix(s, number(uint64(n))) {
			t.Errorf("%d: %.4x", n, s)
		}
		if y, err := dump.Read(s); err != api.OK || !table.Same(x, y) {
			t.Errorf("%d: error %d", n, err)
		}
		hold(t, s)
	}
}

// P7.1: Print changes nothing in its table, and Read answers a table of its own each time.
func TestTablesOfTheirOwn(t *testing.T) {
	x := of(t, many(5)...)
	s := dump.Print(x)
	if !table.Same(x, of(t, many(5)...)) {
		t.Fatal("the table was changed")
	}
	y, _ := dump.Read(s)
	if y.Drop(many(5)[2].To) != api.OK || y.Put(way(api.Prefix{}, 1, 1)) != api.OK {
		t.Fatal("the table can't be changed")
	}
	if z, err := dump.Read(s); err != api.OK || !table.Same(x, z) || table.Same(y, z) {
		t.Errorf("error %d", err)
	}
	if dump.Print(x) != s {
		t.Error("another dump")
	}
}
