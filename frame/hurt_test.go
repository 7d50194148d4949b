package frame_test

import (
	"math/rand"
	"testing"

	"signpost/api"
	"signpost/frame"
)

// The bits of the told length.
const (
	lengthBits    = 8 * 13
	behindLengths = 8 * 15
)

// frames are some that may be, of both kinds, with Data of many lengths, frames' bytes among them.
func frames() []api.Frame {
	inner, _ := frame.Print(plain("inner"))
	list := []api.Frame{{Kind: api.FAck}, {Kind: api.FData}, {Kind: api.FAck, Session: 1<<32 - 1, Epoch: 1<<32 - 1, Index: 65535, Total: 65535, Data: "\xff\xff"}}
	for _, data := range []string{"", "\x00", "hi", string(make([]byte, 19)), inner, text(45), text(256)} {
		list = append(list, plain(data))
	}
	return list
}

// printed: a frame's bytes.
func printed(t *testing.T, f api.Frame) string {
	t.Helper()
	s, err := frame.Print(f)
	if err != api.OK {
		t.Fatalf("%s: error %d", told(f), err)
	}
	return s
}

// P11.2: cut off anywhere, from nothing that is left to all but the last byte.
func TestCutOffAnywhere(t *testing.T) {
	list := append(frames(), plain(long(1000)), plain(long(65000)))
	for _, f := range list {
		s := printed(t, f)
		for n := range len(s) {
			want := api.ErrForm
			if n < around {
				want = api.ErrShort
			}
			expectNone(t, s[:n], want)
		}
	}
}

// P11.2: cut off, but with a sum that holds.
func TestCutOffAndSealed(t *testing.T) {
	for _, f := range frames() {
		s := printed(t, f)
		for n := 15; n < len(s)-4; n++ {
			expectNone(t, sealed(s[:n]), api.ErrForm)
		}
	}
}

// P11.2: with any byte behind it, or many, up to such as make the length come round.
func TestMoreBehind(t *testing.T) {
	for _, f := range frames() {
		s := printed(t, f)
		for b := range 256 {
			expectNone(t, s+string([]byte{byte(b)}), api.ErrForm)
		}
		for _, n := range []int{1, 2, 3, 4, 15, 18, 19, 20, 255, 256, 65517, 65535, 65536, 65537, 131_072} {
			expectNone(t, s+string(make([]byte, n)), api.ErrForm)
			expectNone(t, s+long(n), api.ErrForm)
		}
		expectNone(t, sealed(s), api.ErrForm)
		expectNone(t, s+s[len(s)-4:], api.ErrForm)
	}
	s := printed(t, plain(long(65000)))
	for _, n := range []int{1, 535, 536, 65536} {
		expectNone(t, s+long(n), api.ErrForm)
	}
}

// P11.2: two frames one behind the other, and three.
func TestFramesBehindEachOther(t *testing.T) {
	for _, f := range frames() {
		for _, g := range frames() {
			a, b := printed(t, f), printed(t, g)
			expectNone(t, a+b, api.ErrForm)
			expectNone(t, a+b+a, api.ErrForm)
		}
	}
}

// turn: the bits of s from at on are turned for which a bit in bits is 1; and whether one of the told length is among them.
func turn(s string, at int, bits uint32) (string, bool) {
	list := []byte(s)
	length := false
	for i := range 32 {
		k := at + i
		if bits>>i&1 == 1 && k < 8*len(list) {
			list[k/8] ^= 1 << (k % 8)
			length = length || k >= lengthBits && k < behindLengths
		}
	}
	return string(list), length
}

// expectHurt holds that a frame's bytes with bits turned are none: by their form, where the told length is another, else by their sum.
func expectHurt(t *testing.T, s string, at int, bits uint32) {
	t.Helper()
	hurt, length := turn(s, at, bits)
	if hurt == s {
		t.Fatalf("%d bytes at %d, %x: nothing is turned", len(s), at, bits)
	}
	want := api.ErrSum
	if length {
		want = api.ErrForm
	}
	if got, err := frame.Read(hurt); got != (api.Frame{}) || err != want {
		t.Fatalf("%d bytes at %d, %x: %s, error %d, not %d", len(s), at, bits, told(got), err, want)
	}
}

// P11.2: bursts of every length from 1 to 32 bits, at every place from the first bit to the last one.
func TestTurnedAnywhere(t *testing.T) {
	random := rand.New(rand.NewSource(112))
	for _, f := range frames() {
		s := printed(t, f)
		for at := range 8 * len(s) {
			for width := range 32 {
				ends := uint32(1) | 1<<width
				all := ends | (1<<width - 1)
				expectHurt(t, s, at, ends)
				expectHurt(t, s, at, all)
				expectHurt(t, s, at, ends|random.Uint32()&all)
			}
		}
	}
}

// P11.2: every burst of up to 12 bits at every place.
func TestAllShortBursts(t *testing.T) {
	for _, f := range []api.Frame{{Kind: api.FAck}, plain("")} {
		s := printed(t, f)
		for at := range 8 * len(s) {
			for bits := uint32(1); bits < 1<<12; bits += 2 {
				expectHurt(t, s, at, bits)
			}
		}
	}
}

// P11.2: every way to turn the told length's bits, its neighbours left as they are, and those of 32 bits in a row that hold it.
func TestTurnedLength(t *testing.T) {
	random := rand.New(rand.NewSource(1112))
	for _, data := range []string{"", "hi", text(45)} {
		s := printed(t, plain(data))
		for bits := uint32(1); bits < 1<<16; bits++ {
			expectHurt(t, s, lengthBits, bits)
			expectHurt(t, s, lengthBits-8, bits<<8|random.Uint32()&0xff0000ff)
		}
	}
}

// P11.2: in long frames, the last bits too.
func TestTurnedInLongFrames(t *testing.T) {
	for _, n := range []int{1000, 65000} {
		s := printed(t, plain(long(n)))
		for at := 0; at < 8*len(s); at += n/2 + 7 {
			for _, bits := range []uint32{1, 3, 0x80000001, 0xedb88321, 0xffffffff} {
				expectHurt(t, s, at, bits)
			}
		}
		for back := 1; back <= 40; back++ {
			expectHurt(t, s, 8*len(s)-back, 1)
			expectHurt(t, s, 8*len(s)-back, 0xffffffff)
		}
	}
}
