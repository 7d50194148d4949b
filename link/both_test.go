package link_test

import (
	"math/rand"
	"slices"
	"testing"

	"signpost/api"
	"signpost/link"
)

// drawnFate: any kind, most often one that there is.
func drawnFate(source *rand.Rand) api.Fate {
	f := api.Fate{Kind: source.Intn(6), N: source.Intn(400) - 200, Bits: source.Uint32()}
	if source.Intn(10) == 0 {
		f.Kind = wrongKinds()[source.Intn(len(wrongKinds()))]
	}
	if source.Intn(10) == 0 {
		f.N = int(source.Uint64())
	}
	return f
}

// drawnText: fewer bytes than so many, any ones.
func drawnText(source *rand.Rand, many int) string {
	list := make([]byte, source.Intn(many))
	source.Read(list)
	return string(list)
}

// P15.1: drawn rows of fates: what comes, and in which order, by two readings of the words.
func TestDrawnRows(t *testing.T) {
	source := rand.New(rand.NewSource(15))
	for range 5000 {
		n := source.Intn(40)
		list, fates := make([]string, n), make([]api.Fate, n)
		late := 1 + source.Intn(8)
		l, j := link.New(), &judge{}
		for i := range n {
			list[i] = drawnText(source, 30)
			fates[i] = drawnFate(source)
			if source.Intn(late) == 0 {
				fates[i].Kind = api.Late
			}
			send(t, l, j, list[i], fates[i])
		}
		if got, want := l.All(), placed(list, fates); !slices.Equal(got, want) || !slices.Equal(got, j.all()) {
			t.Fatalf("%v: %q, not %q", fates, got, want)
		}
		expectEmpty(t, l)
	}
}

// P15.1 and P15.2: drawn rows of all calls.
func TestDrawnCalls(t *testing.T) {
	source := rand.New(rand.NewSource(1515))
	for row := range 3000 {
		l, j := link.New(), &judge{}
		often := 2 + row%4
		for range 80 {
			switch source.Intn(often) {
			case 0:
				arrive(t, l, j)
			case 1:
				f := drawnFate(source)
				f.Kind = api.Late
				send(t, l, j, drawnText(source, 20), f)
			default:
				send(t, l, j, drawnText(source, 20), drawnFate(source))
			}
			if source.Intn(40) == 0 {
				all(t, l, j)
			}
		}
		all(t, l, j)
	}
}

// FuzzLink: P15.1 and P15.2, of any rows of calls: each byte is an Arrive, an All, or a Send that the bytes behind it tell.
func FuzzLink(f *testing.F) {
	f.Add("\x03abc\x00d\x00\x00e\x00")
	f.Add("\x06\x07\x03x\x01\x03y\x01\x06\x02z\x02\x07")
	f.Add("\x04word\xff\x05word\x80\x06")
	f.Fuzz(func(t *testing.T, row string) {
		l, j := link.New(), &judge{}
		for len(row) > 0 {
			kind := int(row[0])
			row = row[1:]
			switch {
			case kind%16 == 6:
				arrive(t, l, j)
			case kind%16 == 7:
				all(t, l, j)
			default:
				size := min(kind/16, len(row))
				s := row[:size]
				row = row[size:]
				fate := api.Fate{Kind: kind % 16}
				if len(row) > 0 {
					fate.N, fate.Bits = 37*int(int8(row[0])), uint32(row[0])*0x01010101
					row = row[1:]
				}
				send(t, l, j, s, fate)
			}
		}
		all(t, l, j)
	})
}

// FuzzHurt: P15.2, of any bytes and fates.
func FuzzHurt(f *testing.F) {
	f.Add("abc", 4, 8, uint32(3))
	f.Add("abc", 5, -1, uint32(0))
	f.Add("", 4, 1<<62, uint32(1<<31))
	f.Fuzz(func(t *testing.T, s string, kind, n int, bits uint32) {
		fate := api.Fate{Kind: kind, N: n, Bits: bits}
		expectHurt(t, s, fate, hurt(s, fate))
	})
}

// FuzzFair: P15.3, of any kinds.
func FuzzFair(f *testing.F) {
	f.Add("\x01\x04\x05", 3)
	f.Add("\x01\x00\x05\x04", 2)
	f.Add("", 0)
	f.Fuzz(func(t *testing.T, kinds string, n int) {
		var list []api.Fate
		for i := range len(kinds) {
			list = append(list, api.Fate{Kind: int(int8(kinds[i])), N: i})
		}
		expectFair(t, list, n, fair(list, n))
	})
}
