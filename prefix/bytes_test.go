package prefix_test

import (
	"fmt"
	"strings"
	"testing"

	"signpost/api"
	"signpost/prefix"
	"signpost/varint"
)

// P3.2: the example, and lengths that end within a byte and at a byte's end.
func TestBytes(t *testing.T) {
	all := strings.Repeat("\xff", 16)
	for want, p := range map[string]api.Prefix{
		"\x08\x0a":                 four(10, 0, 0, 0, 8),
		"\x10\x0a\x01":             four(10, 1, 0, 0, 16),
		"\x00":                     {},
		"\x01\x80":                 four(128, 0, 0, 0, 1),
		"\x07\x0a":                 four(10, 0, 0, 0, 7),
		"\x09\x0a\x00":             four(10, 0, 0, 0, 9),
		"\x18\x00\x00\x00":         four(0, 0, 0, 0, 24),
		"\x19\x00\x00\x00\x80":     four(0, 0, 0, 128, 25),
		"\x20\xff\xff\xff\xff":     four(255, 255, 255, 255, 32),
		"\x40":                     {Six: true},
		"\x41\x00":                 six("", 1),
		"\x48\x0a":                 six("\x0a", 8),
		"\x60\x20\x01\x0d\xb8":     six("\x20\x01\x0d\xb8", 32),
		"\x61\x20\x01\x0d\xb8\x80": six("\x20\x01\x0d\xb8\x80", 33),
		"\xbf" + all[:15] + "\xfe": six(all[:15]+"\xfe", 127),
		"\xc0" + all:               six(all, 128),
	} {
		if got := prefix.Bytes(p); got != want {
			t.Errorf("%v: %x", p, got)
		}
		r := varint.NewReader(want + "z")
		if got, err := prefix.Read(r); got != p || err != api.OK || r.Left() != 1 || r.Err() != api.OK {
			t.Errorf("%x: %v %d, left %d", want, got, err, r.Left())
		}
	}
}

// P3.2: of one that may not be there are no bytes and no text.
func TestWrongOnesHaveNoBytes(t *testing.T) {
	for _, p := range wrongs() {
		if prefix.Bytes(p) != "" || prefix.Text(p) != "" {
			t.Errorf("%v: %x %q", p, prefix.Bytes(p), prefix.Text(p))
		}
	}
}

// P3.2: of every first byte: none; or one that is read with just so many bytes, and is ErrShort with fewer.
func TestReadOfEachFirstByte(t *testing.T) {
	for first := range 256 {
		n := first
		if first >= 64 {
			n = first - 64
		}
		none := first > 32 && first < 64 || first > 192
		for size := range 18 {
			s := string([]byte{byte(first)}) + strings.Repeat("\x00", size)
			r := varint.NewReader(s)
			p, err := prefix.Read(r)
			switch {
			case none:
				if err != api.ErrForm || p != (api.Prefix{}) || r.Err() != api.OK {
					t.Errorf("%x: %v %d", s, p, err)
				}
			case size < (n+7)/8:
				if err != api.ErrShort || p != (api.Prefix{}) || r.Err() != api.ErrShort || r.Left() != size {
					t.Errorf("%x: %v %d, left %d", s, p, err, r.Left())
				}
			default:
				if err != api.OK || p != (api.Prefix{Six: first >= 64, Len: n}) || r.Left() != size-(n+7)/8 {
					t.Errorf("%x: %v %d, left %d", s, p, err, r.Left())
				}
			}
		}
	}
}

// P3.2: each bit behind the first Len ones is ErrForm if it is 1, each of the first ones is the prefix's.
func TestReadOfEachBit(t *testing.T) {
	for _, isSix := range []bool{false, true} {
		for n := range most(isSix) + 1 {
			size := (n + 7) / 8
			for i := range 8 * size {
				list := make([]byte, 1+size)
				list[0] = byte(n)
				if isSix {
					list[0] += 64
				}
				list[1+i/8] = 128 >> (i % 8)
				p, err := prefix.Read(varint.NewReader(string(list)))
				if i < n && (err != api.OK || p.Len != n || p.Six != isSix || prefix.Bit(p, i) != 1 || prefix.Bytes(p) != string(list)) {
					t.Fatalf("%x: %v %d", list, p, err)
				}
				if i >= n && (err != api.ErrForm || p != api.Prefix{}) {
					t.Fatalf("%x: %v %d", list, p, err)
				}
			}
		}
	}
}

// P3.2: there is no reader, or it has an error already: that one, whatever comes.
func TestReadOfReadersThatAreWrong(t *testing.T) {
	if p, err := prefix.Read(nil); p != (api.Prefix{}) || err != api.ErrNil {
		t.Errorf("%v %d", p, err)
	}
	for _, rest := range []string{"", "\x08\x0a", "\x21", "\x08", "\x07\x01"} {
		for want, spoil := range map[api.Errno]func(r *varint.Reader){
			api.ErrArg:   func(r *varint.Reader) { r.Raw(-1) },
			api.ErrShort: func(r *varint.Reader) { r.Raw(1000) },
			api.ErrBig:   func(r *varint.Reader) { r.Byte(); r.Byte(); r.Text(3) },
			api.ErrForm:  func(r *varint.Reader) { r.Uint() },
		} {
			r := varint.NewReader("\x80\x00\x04" + rest)
			spoil(r)
			left := r.Left()
			if p, err := prefix.Read(r); p != (api.Prefix{}) || err != want || r.Err() != want || r.Left() != left {
				t.Errorf("%x: %v %d, not %d", rest, p, err, want)
			}
		}
	}
}

// P3.2, and rule 3: bytes that are none stay unread, and the reader can go on.
func TestNoPrefixTakesNothing(t *testing.T) {
	for _, s := range []string{"\x21\x0a\x0b", "\x3f", "\xc1\x00", "\xff", "\x07\x01\x02", "\x09\x0a\x01", "\x41\x40\x00"} {
		r := varint.NewReader(s)
		if _, err := prefix.Read(r); err != api.ErrForm {
			t.Errorf("%x: %d", s, err)
		}
		if r.Err() != api.OK || r.Raw(len(s)) != s || r.Done() != api.OK {
			t.Errorf("%x: %d, left %d", s, r.Err(), r.Left())
		}
	}
}

// P3.2: one behind the other.
func TestReadManyInARow(t *testing.T) {
	list := rights(t)
	var w varint.Writer
	for _, p := range list {
		w.Raw(prefix.Bytes(p))
	}
	r := varint.NewReader(w.String())
	for _, p := range list {
		if got, err := prefix.Read(r); got != p || err != api.OK {
			t.Fatalf("%v: %v %d", p, got, err)
		}
	}
	if r.Done() != api.OK {
		t.Error(r.Done())
	}
	if _, err := prefix.Read(r); err != api.ErrShort {
		t.Error(err)
	}
}

// P3.2
func TestText(t *testing.T) {
	for want, p := range map[string]api.Prefix{
		"0.0.0.0/0":          {},
		"10.0.0.0/8":         four(10, 0, 0, 0, 8),
		"10.1.0.0/16":        four(10, 1, 0, 0, 16),
		"255.248.0.0/13":     four(255, 248, 0, 0, 13),
		"192.168.100.9/32":   four(192, 168, 100, 9, 32),
		"255.255.255.255/32": four(255, 255, 255, 255, 32),
		"0000:0000:0000:0000:0000:0000:0000:0000/0":   {Six: true},
		"2001:0db8:0001:0000:0000:0000:0000:0000/48":  six("\x20\x01\x0d\xb8\x00\x01", 48),
		"0123:4567:89ab:cdef:fedc:ba98:7654:3210/128": six("\x01\x23\x45\x67\x89\xab\xcd\xef\xfe\xdc\xba\x98\x76\x54\x32\x10", 128),
		"fe80:0000:0000:0000:0000:0000:0000:0000/9":   six("\xfe\x80", 9),
	} {
		if got := prefix.Text(p); got != want {
			t.Errorf("%q, not %q", got, want)
		}
	}
}

// P3.2: of all bytes that there are, at each place.
func TestTextOfEachByte(t *testing.T) {
	for b := range 256 {
		p := four(byte(b), 0, byte(b), byte(255-b), 32)
		if want := fmt.Sprintf("%d.0.%d.%d/32", b, b, 255-b); prefix.Text(p) != want {
			t.Errorf("%q, not %q", prefix.Text(p), want)
		}
		p = six(strings.Repeat(string([]byte{byte(b), byte(255 - b)}), 8), 128)
		if want := strings.Repeat(fmt.Sprintf(":%02x%02x", b, 255-b), 8)[1:] + "/128"; prefix.Text(p) != want {
			t.Errorf("%q, not %q", prefix.Text(p), want)
		}
	}
}
