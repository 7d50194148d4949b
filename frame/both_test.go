package frame_test

import (
	"math/rand"
	"testing"

	"signpost/api"
	"signpost/frame"
)

// anyFrame is a frame, mostly one that may be.
func anyFrame(source *rand.Rand) api.Frame {
	f := api.Frame{
		Kind:    1 + source.Intn(2),
		Session: int(source.Uint32()) >> source.Intn(32),
		Epoch:   int(source.Uint32()) >> source.Intn(32),
		Index:   source.Intn(65536),
		Total:   source.Intn(65536),
		Data:    text(source.Intn(100)),
	}
	out := []int{-1, 1 << 32, 1<<32 + 1, -1 << 40}
	switch source.Intn(20) {
	case 0:
		f.Kind = source.Intn(9) - 4
	case 1:
		f.Session = out[source.Intn(4)]
	case 2:
		f.Epoch = out[source.Intn(4)]
	case 3:
		f.Index = out[source.Intn(4)]
	case 4:
		f.Total = out[source.Intn(4)]
	}
	return f
}

// P11.1: what is printed is read as it was, of any frames.
func TestPrintedIsRead(t *testing.T) {
	source := rand.New(rand.NewSource(11))
	count := map[api.Errno]int{}
	for range 20_000 {
		_, err := expectPrinted(t, anyFrame(source))
		count[err]++
	}
	if count[api.OK] < 10_000 || count[api.ErrArg] < 2000 {
		t.Error(count)
	}
}

// anyBytes are some that look like a frame's, more or less.
func anyBytes(source *rand.Rand) string {
	data := text(source.Intn(40))
	length := len(data)
	if source.Intn(4) == 0 {
		length += source.Intn(5) - 2
	}
	s := raw(byte(source.Intn(4)), source.Uint32(), source.Uint32(), uint16(source.Uint32()), uint16(source.Uint32()), uint16(length), data)
	switch source.Intn(6) {
	case 0:
		s = s[:source.Intn(len(s)+1)]
	case 1:
		list := []byte(s)
		list[source.Intn(len(list))] = byte(source.Uint32())
		s = string(list)
	}
	return s
}

// P11.1: what is read is printed as it was, and any other bytes are told as the chapter says.
func TestReadIsPrinted(t *testing.T) {
	source := rand.New(rand.NewSource(111))
	count := map[api.Errno]int{}
	for range 20_000 {
		count[expectRead(t, anyBytes(source))]++
	}
	for _, err := range []api.Errno{api.OK, api.ErrShort, api.ErrForm, api.ErrSum, api.ErrArg} {
		if count[err] < 500 {
			t.Errorf("error %d: %d times", err, count[err])
		}
	}
}

// P11.1: frames of other numbers or other Data have other bytes; the same has the same each time.
func TestOneFrameOneText(t *testing.T) {
	source := rand.New(rand.NewSource(1111))
	seen := map[string]api.Frame{}
	for range 5000 {
		f := anyFrame(source)
		s, err := frame.Print(f)
		if again, _ := frame.Print(f); again != s {
			t.Fatalf("%s: another text the second time", told(f))
		}
		if err != api.OK {
			continue
		}
		if g, there := seen[s]; there && g != f {
			t.Fatalf("%s and %s have the same bytes", told(f), told(g))
		}
		seen[s] = f
	}
}

// P11.1 and P11.2, of any bytes, and of the same with a sum that holds.
func FuzzRead(f *testing.F) {
	f.Add("")
	f.Add(string(make([]byte, 18)))
	f.Add(string(make([]byte, 19)))
	f.Add(raw(1, 2, 3, 4, 5, 3, "abc"))
	f.Add(raw(3, 2, 3, 4, 5, 3, "abc"))
	f.Add(raw(1, 2, 3, 4, 5, 2, "abc"))
	f.Fuzz(func(t *testing.T, s string) {
		expectRead(t, sealed(s))
		if expectRead(t, s) == api.OK {
			expectNone(t, s+"\x00", api.ErrForm)
			expectNone(t, s+s, api.ErrForm)
		}
	})
}

// P11.1, of any numbers.
func FuzzPrint(f *testing.F) {
	f.Add(1, 2, 3, 4, 5, "abc")
	f.Add(2, 1<<32-1, 1<<32, 65535, 65536, "")
	f.Add(-1, -1, -1, -1, -1, long(65001))
	f.Fuzz(func(t *testing.T, kind, session, epoch, index, total int, data string) {
		expectPrinted(t, api.Frame{Kind: kind, Session: session, Epoch: epoch, Index: index, Total: total, Data: data})
	})
}
