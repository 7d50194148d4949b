package frame_test

import (
	"testing"

	"signpost/api"
	"signpost/frame"
)

// P11.1: by hand, the document's example first, its sum worked out by another program.
func TestPrintByHand(t *testing.T) {
	for _, c := range []struct {
		f    api.Frame
		want string
	}{
		{
			api.Frame{Kind: api.FAck},
			"\x02\x00\x00\x00\x00\x00\x00\x00\x00\x00\x00\x00\x00\x00\x00" + "\x76\xb2\x55\x7f",
		},
		{
			plain("hi"),
			"\x01\xa1\xb2\xc3\xd4\xe5\xf6\x07\x18\x29\x3a\x4b\x5c\x00\x02hi" + "\xdb\x0d\xab\xfa",
		},
	} {
		if s, err := frame.Print(c.f); s != c.want || err != api.OK {
			t.Errorf("%s: %x, error %d, not %x", told(c.f), s, err, c.want)
		}
		if f, err := frame.Read(c.want); f != c.f || err != api.OK {
			t.Errorf("%x: %s, error %d, not %s", c.want, told(f), err, told(c.f))
		}
		if !frame.Right(c.f) {
			t.Errorf("%s may not be", told(c.f))
		}
	}
}

// P11.1: where each field stands, byte by byte.
func TestPrintEachField(t *testing.T) {
	base := api.Frame{Kind: api.FAck}
	for _, c := range []struct {
		f        api.Frame
		at, last int
		want     string
	}{
		{api.Frame{Kind: api.FData}, 0, 1, "\x01"},
		{api.Frame{Kind: api.FAck, Session: 0x01020304}, 1, 5, "\x01\x02\x03\x04"},
		{api.Frame{Kind: api.FAck, Epoch: 0x05060708}, 5, 9, "\x05\x06\x07\x08"},
		{api.Frame{Kind: api.FAck, Index: 0x090a}, 9, 11, "\x09\x0a"},
		{api.Frame{Kind: api.FAck, Total: 0x0b0c}, 11, 13, "\x0b\x0c"},
		{api.Frame{Kind: api.FAck, Data: long(0x0d0e)}, 13, 15, "\x0d\x0e"},
	} {
		empty, _ := frame.Print(base)
		s, err := frame.Print(c.f)
		if err != api.OK || len(s) != around+len(c.f.Data) {
			t.Fatalf("%s: %d bytes, error %d", told(c.f), len(s), err)
		}
		want := empty[:c.at] + c.want + empty[c.last:15] + c.f.Data
		if s != sealed(want) {
			t.Errorf("%s: %.40x, not %.40x", told(c.f), s, want)
		}
	}
}

// P11.1: every kind near those that may be, and such as are one of these in their lowest byte.
func TestKinds(t *testing.T) {
	kinds := append(edges(1, 2), 4, 5, 128, 255, 256, 257, 258, 65537, 65538, -255, -254, -256, -2, -3)
	for _, kind := range kinds {
		for _, data := range []string{"", "abc"} {
			f := plain(data)
			f.Kind = kind
			_, err := expectPrinted(t, f)
			if (err == api.OK) != (kind == 1 || kind == 2) {
				t.Errorf("kind %d: error %d", kind, err)
			}
		}
	}
}

// P11.1: each number at its least and its greatest, just out of these, and far out of them.
func TestNumbersAtTheEdges(t *testing.T) {
	for _, c := range []struct {
		name string
		most int
		set  func(*api.Frame, int)
	}{
		{"Session", 1<<32 - 1, func(f *api.Frame, n int) { f.Session = n }},
		{"Epoch", 1<<32 - 1, func(f *api.Frame, n int) { f.Epoch = n }},
		{"Index", 1<<16 - 1, func(f *api.Frame, n int) { f.Index = n }},
		{"Total", 1<<16 - 1, func(f *api.Frame, n int) { f.Total = n }},
	} {
		for _, n := range edges(0, c.most) {
			for _, f := range []api.Frame{{Kind: api.FAck}, {Kind: api.FData, Data: "x"}, plain("abc")} {
				c.set(&f, n)
				_, err := expectPrinted(t, f)
				if (err == api.OK) != (n >= 0 && n <= c.most) {
					t.Errorf("%s %d: error %d", c.name, n, err)
				}
			}
		}
	}
}

// P11.1: all numbers at their ends at once, and Index above Total too, as no word holds them against each other.
func TestNumbersTogether(t *testing.T) {
	for _, kind := range []int{api.FData, api.FAck} {
		for _, wide := range []int{0, 1<<32 - 1} {
			for _, index := range []int{0, 7, 65535} {
				for _, total := range []int{0, 7, 65535} {
					f := api.Frame{Kind: kind, Session: wide, Epoch: 1<<32 - 1 - wide, Index: index, Total: total, Data: "\x00"}
					if _, err := expectPrinted(t, f); err != api.OK {
						t.Errorf("%s: error %d", told(f), err)
					}
				}
			}
		}
	}
}

// P11.1: Data of every length that has an edge, of both kinds.
func TestDataOfAnyLength(t *testing.T) {
	lengths := []int{0, 1, 2, 3, 44, 45, 64, 254, 255, 256, 257, 511, 512, 1000, 1001, 4096, 32767, 32768, 64999, 65000}
	wrong := []int{65001, 65002, 65516, 65517, 65535, 65536, 65537, 130_000, 1 << 17, 1<<17 + 1, 1 << 20}
	for _, kind := range []int{api.FData, api.FAck} {
		for _, n := range append(lengths, wrong...) {
			f := plain(long(n))
			f.Kind = kind
			s, err := expectPrinted(t, f)
			if n <= 65000 && (err != api.OK || len(s) != around+n) {
				t.Errorf("%d bytes of Data: %d bytes, error %d", n, len(s), err)
			}
			if n > 65000 && err != api.ErrArg {
				t.Errorf("%d bytes of Data: error %d", n, err)
			}
		}
	}
	for n := range 600 {
		expectPrinted(t, plain(text(n)))
	}
}

// P11.1: Data is any bytes: such as stand for themselves nowhere in the words too.
func TestDataOfAnyBytes(t *testing.T) {
	for b := range 256 {
		one := string([]byte{byte(b)})
		expectPrinted(t, plain(one))
		expectPrinted(t, plain(one+one+one+one))
	}
	inner, _ := frame.Print(plain("inner"))
	expectPrinted(t, plain(inner))
	expectPrinted(t, plain(inner+inner))
}

// P11.1: what Print refuses, wherever else the frame is right, and where more than one thing is wrong.
func TestPrintRefuses(t *testing.T) {
	for i, f := range []api.Frame{
		{}, {Kind: 3}, {Kind: -1}, {Kind: 3, Session: -1},
		{Kind: 1, Session: -1}, {Kind: 1, Session: 1 << 32},
		{Kind: 2, Epoch: -1}, {Kind: 2, Epoch: 1 << 32},
		{Kind: 1, Index: -1}, {Kind: 1, Index: 65536},
		{Kind: 2, Total: -1}, {Kind: 2, Total: 65536},
		{Kind: 1, Data: long(65001)}, {Kind: 2, Data: long(65001)},
		{Kind: 0, Session: -1, Epoch: 1 << 32, Index: 65536, Total: -1, Data: long(65001)},
	} {
		if s, err := frame.Print(f); s != "" || err != api.ErrArg {
			t.Errorf("%d: %d bytes, error %d", i, len(s), err)
		}
		if frame.Right(f) {
			t.Errorf("%d may be", i)
		}
	}
}
