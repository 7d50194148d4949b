package dump_test

import (
	"math"
	"math/rand"
	"strings"
	"testing"

	"signpost/api"
	"signpost/dump"
	"signpost/prefix"
	"signpost/table"
)

// guess: a prefix that may be; of few bytes, so that many have first bytes in common.
func guess(source *rand.Rand) api.Prefix {
	addr := make([]byte, 16)
	for i := range addr {
		addr[i] = []byte{0, 1, 10, 128, 255, byte(source.Intn(256))}[source.Intn(6)]
	}
	isSix := source.Intn(2) == 0
	size := 4
	if isSix {
		size = 16
	}
	n := []int{0, 8, 16, 24, 32, 8 * size, source.Intn(8*size + 1)}[source.Intn(7)]
	p, _ := prefix.Make(isSix, string(addr[:size]), n)
	return p
}

// edge: a number that is often at an edge.
func edge(source *rand.Rand, edges ...uint64) uint64 {
	n := edges[source.Intn(len(edges))]
	if source.Intn(4) == 0 {
		n = uint64(source.Int63n(int64(n) + 1))
	}
	return n
}

// guessTable: one of up to so many routes.
func guessTable(source *rand.Rand, most int) *table.Table {
	x := &table.Table{}
	for range source.Intn(most + 1) {
		x.Put(way(guess(source), int(edge(source, 0, 1, 127, 128, 65533, 65534)), uint32(edge(source, 0, 1, 1<<31, math.MaxUint32))))
	}
	return x
}

// P7.3: what is dumped is read as it was, plain and packed; unlike tables have unlike dumps.
func TestWhatIsDumpedIsRead(t *testing.T) {
	source := rand.New(rand.NewSource(7))
	seen := map[string]*table.Table{}
	for i := range 2000 {
		x := guessTable(source, []int{2, 10, 40, 300}[i%4])
		s := dump.Print(x)
		if hold(t, s) != api.OK {
			t.Fatalf("%x is none", s)
		}
		if y, err := dump.Read(s); err != api.OK || !table.Same(x, y) {
			t.Fatalf("%x: error %d", s, err)
		}
		if other := seen[s]; other != nil && !table.Same(x, other) {
			t.Fatalf("%x: of two tables", s)
		}
		seen[s] = x
		p, err := dump.Pack(x)
		if y, wrong := dump.Unpack(p); err != api.OK || wrong != api.OK || !table.Same(x, y) {
			t.Fatalf("%x: error %d, error %d", s, err, wrong)
		}
	}
}

// P7.3: no other bytes are that table's dump: what differs from it by a byte that is another one, that goes, or that comes.
func TestNoOtherBytesAreItsDump(t *testing.T) {
	source := rand.New(rand.NewSource(77))
	for range 12 {
		x := guessTable(source, 6)
		s := dump.Print(x)
		for i := range len(s) + 1 {
			for b := range 256 {
				others := []string{s[:i] + string([]byte{byte(b)}) + s[i:]}
				if i < len(s) {
					others = append(others, s[:i]+string([]byte{byte(b)})+s[i+1:], s[:i]+s[i+1:])
				}
				for _, other := range others {
					if hold(t, other) != api.OK || other == s {
						continue
					}
					if y, _ := dump.Read(other); table.Same(x, y) {
						t.Fatalf("%x is the table's of %x", other, s)
					}
				}
			}
		}
	}
}

// guessRows: routes of a dump that are right, but for a fault here and there.
func guessRows(source *rand.Rand) string {
	var s strings.Builder
	list := guessTable(source, 5).All()
	s.WriteString(number(uint64(len(list))))
	ahead := ""
	for _, r := range list {
		if source.Intn(12) == 0 {
			r.To = guess(source)
		}
		text := prefix.Bytes(r.To)
		told := 0
		for told < len(ahead) && told < len(text) && ahead[told] == text[told] {
			told++
		}
		if told > 0 && source.Intn(12) == 0 {
			told = source.Intn(told)
		}
		metric, seq := uint64(r.Metric), uint64(r.Seq)
		one := row{uint64(told), text[told:], metric, seq}
		switch source.Intn(40) {
		case 0:
			one.told += uint64(source.Intn(4))
		case 1:
			one.text += "\x00"
		case 2:
			one.text += strings.Repeat("\x00", source.Intn(20))
		case 3:
			one.metric = 65535 + uint64(source.Intn(3))
		case 4:
			one.seq = 1<<32 + uint64(source.Intn(3))
		case 5:
			one.text = one.text[:len(one.text)/2]
		}
		s.WriteString(one.String())
		ahead = text
	}
	return s.String()
}

// P7.1, of many dumps that are right, or nearly so: each error comes.
func TestReadOfManyRows(t *testing.T) {
	source := rand.New(rand.NewSource(777))
	count := map[api.Errno]int{}
	for range 60_000 {
		s := guessRows(source)
		switch source.Intn(20) {
		case 0:
			s = s[:source.Intn(len(s))]
		case 1:
			s += "\x00"
		}
		count[hold(t, s)]++
	}
	for _, err := range []api.Errno{api.OK, api.ErrShort, api.ErrForm, api.ErrBig, api.ErrArg, api.ErrOrder} {
		if count[err] < 100 {
			t.Errorf("error %d: only %d dumps", err, count[err])
		}
	}
}

// P7.1, of all short bytes of some letters, with which one route can be told.
func TestReadOfAllShortBytes(t *testing.T) {
	letters := []string{"\x00", "\x01", "\x02", "\x08", "\x40", "\x80"}
	list := []string{""}
	right := 0
	for range 8 {
		var next []string
		for _, s := range list {
			for _, b := range letters {
				// What is wrong ahead of the end stays so, whatever stands behind.
				if err := hold(t, s+b); err == api.ErrShort || err == api.OK {
					next = append(next, s+b)
				}
				if _, err := dump.Read(s + b); err == api.OK {
					right++
				}
			}
		}
		list = next
	}
	if right < 100 {
		t.Error(right)
	}
}

// P7.1, P7.2, P7.3, of any bytes.
func FuzzRead(f *testing.F) {
	f.Add("\x02\x00\x02\x08\x0a\x01\x00\x00\x03\x10\x0a\x01\x02\x00")
	f.Add("\x02" + "\x00\x05\x20\x0a\x01\x07\x07\x01\x01" + "\x04\x01\x08\x01\x01")
	f.Add("\x01" + "\x00\x11\xc0" + strings.Repeat("\xff", 16) + "\xfe\xff\x03\xff\xff\xff\xff\x0f")
	f.Fuzz(func(t *testing.T, s string) {
		hold(t, s)
		dump.Unpack(s)
		if len(s) <= api.MaxBlob {
			x, err := dump.Read(s)
			y, wrong := dump.Unpack(packed(t, s))
			if err != wrong || !table.Same(x, y) {
				t.Errorf("%x: error %d, packed %d", s, err, wrong)
			}
		}
	})
}
