package incr_test

import (
	"math"
	"slices"
	"strings"
	"testing"

	"signpost/api"
	"signpost/incr"
)

// P8.1: rows, byte by byte, both ways.
func TestRows(t *testing.T) {
	all := strings.Repeat("\xff", 16)
	ten := four(10, 0, 0, 0, 8)
	for _, c := range []struct {
		what string
		list []api.Inc
		want string
	}{
		{"no changes", nil, "\x00"},
		{"an addition", row(add(ten, 1, 2)), "\x01" + "\x01\x08\x0a\x01\x02"},
		{"a change", row(change(ten, 1, 2)), "\x01" + "\x02\x08\x0a\x01\x02"},
		{"a withdrawal", row(withdraw(ten)), "\x01" + "\x03\x08\x0a"},
		{"all of them", row(add(ten, 300, 1), change(ten, 1, math.MaxUint32), withdraw(ten)), "\x03" + "\x01\x08\x0a\xac\x02\x01" + "\x02\x08\x0a\x01\xff\xff\xff\xff\x0f" + "\x03\x08\x0a"},
		{"in no order of prefixes, and the same one again", row(withdraw(four(11, 0, 0, 0, 8)), withdraw(ten), withdraw(ten)), "\x03" + "\x03\x08\x0b" + "\x03\x08\x0a" + "\x03\x08\x0a"},
		{"one that doesn't follow", row(add(ten, 0, 0), add(ten, 0, 0)), "\x02" + "\x01\x08\x0a\x00\x00" + "\x01\x08\x0a\x00\x00"},
		{"of four bytes, length 0", row(add(api.Prefix{}, 0, 0), withdraw(api.Prefix{})), "\x02" + "\x01\x00\x00\x00" + "\x03\x00"},
		{"of sixteen, length 0", row(change(six("", 0), 0, 0), withdraw(six("", 0))), "\x02" + "\x02\x40\x00\x00" + "\x03\x40"},
		{"length 32", row(add(four(255, 255, 255, 255, 32), 7, 8), withdraw(four(255, 255, 255, 255, 32))), "\x02" + "\x01\x20\xff\xff\xff\xff\x07\x08" + "\x03\x20\xff\xff\xff\xff"},
		{"length 128", row(add(six(all, 128), 7, 8), withdraw(six(all, 128))), "\x02" + "\x01\xc0" + all + "\x07\x08" + "\x03\xc0" + all},
		{"the greatest metric", row(add(ten, 65534, 0)), "\x01" + "\x01\x08\x0a\xfe\xff\x03\x00"},
		{"the greatest number", row(change(ten, 0, math.MaxUint32)), "\x01" + "\x02\x08\x0a\x00\xff\xff\xff\xff\x0f"},
	} {
		if got, err := incr.Print(c.list); got != c.want || err != api.OK {
			t.Errorf("%s: %x, error %d; not %x", c.what, got, err, c.want)
		}
		if list, err := incr.Read(c.want); !slices.Equal(list, c.list) || err != api.OK {
			t.Errorf("%s: %v, error %d", c.what, list, err)
		}
		hold(t, c.want)
	}
}

// P8.1: nil and an empty list are one.
func TestPrintOfNone(t *testing.T) {
	for _, list := range [][]api.Inc{nil, {}} {
		if s, err := incr.Print(list); s != "\x00" || err != api.OK {
			t.Errorf("%x, error %d", s, err)
		}
	}
}

// P8.1: at the ends of what may be, what is written is read.
func TestPrintAtEnds(t *testing.T) {
	for _, i := range edges() {
		s, err := incr.Print(row(i))
		if err != api.OK || hold(t, s) != api.OK {
			t.Fatalf("%v: %x, error %d", i, s, err)
		}
		if list, err := incr.Read(s); !slices.Equal(list, row(i)) || err != api.OK {
			t.Errorf("%v: %v, error %d", i, list, err)
		}
	}
}

// P8.1: changes that may not be, at each place among others.
func TestPrintOfWrongChanges(t *testing.T) {
	for _, i := range wrongChanges() {
		for at := range 4 {
			if s, err := incr.Print(slices.Insert(adds(3), at, i)); s != "" || err != api.ErrArg {
				t.Errorf("%v at %d: %x, error %d", i, at, s, err)
			}
		}
		if s, err := incr.Print(row(i)); s != "" || err != api.ErrArg {
			t.Errorf("%v: %x, error %d", i, s, err)
		}
	}
}

// P8.1: 200 changes, and more; how many there are takes two bytes from 128 on.
func TestPrintOfMany(t *testing.T) {
	for _, n := range []int{127, 128, 199, 200} {
		s, err := incr.Print(adds(n))
		if err != api.OK || !strings.HasPrefix(s, number(uint64(n))) || hold(t, s) != api.OK {
			t.Errorf("%d: %.4x, error %d", n, s, err)
		}
		if list, err := incr.Read(s); !slices.Equal(list, adds(n)) || err != api.OK {
			t.Errorf("%d: error %d", n, err)
		}
	}
	for _, n := range []int{201, 202, 256, 456, 1000} {
		if s, err := incr.Print(adds(n)); s != "" || err != api.ErrBig {
			t.Errorf("%d: %.4x, error %d", n, s, err)
		}
	}
}

// P8.1, and rule 2: too many, and one of them may not be, wherever it stands.
func TestPrintOfManyWithAWrongOne(t *testing.T) {
	for _, at := range []int{0, 1, 100, 199, 200, 201, 300} {
		for _, i := range wrongChanges() {
			if s, err := incr.Print(slices.Insert(adds(300), at, i)); s != "" || err != api.ErrArg {
				t.Errorf("%v at %d: %.4x, error %d", i, at, s, err)
			}
		}
	}
}

// Rule 5: what is handed in stays, its spare room too.
func TestPrintLeavesTheList(t *testing.T) {
	room := append(edges(), wrongChanges()...)
	list := slices.Clone(room)
	for _, n := range []int{0, 1, 100, 200, 201, len(list)} {
		incr.Print(list[:n])
	}
	if !slices.Equal(list, room) {
		t.Error("the list was changed")
	}
}
