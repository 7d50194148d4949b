package incr_test

import (
	"math/rand"
	"slices"
	"strings"
	"testing"

	"signpost/api"
	"signpost/incr"
	"signpost/table"
)

// few are prefixes over which guesses go, in no order.
func few() []api.Prefix {
	return []api.Prefix{six("\x0a", 8), {}, four(10, 1, 0, 0, 16), four(10, 0, 0, 0, 8), {Six: true}, four(10, 0, 0, 0, 9), six("\x20\x01", 128), four(255, 255, 255, 255, 32)}
}

// guess: a change that may be, of one of a few prefixes.
func guess(source *rand.Rand) api.Inc {
	list := few()
	p := list[source.Intn(len(list))]
	metric, seq := []int{0, 1, 128, 65534}[source.Intn(4)], []uint32{0, 1, 1 << 31, 1<<32 - 1}[source.Intn(4)]
	return row(add(p, metric, seq), change(p, metric, seq), withdraw(p))[source.Intn(3)]
}

// guessTable: one of some of the few prefixes.
func guessTable(source *rand.Rand) *table.Table {
	x := &table.Table{}
	for _, p := range few() {
		if source.Intn(2) == 0 {
			x.Put(way(p, source.Intn(3), uint32(source.Intn(3))))
		}
	}
	return x
}

// guessRow: so many changes, or fewer, that can be done on a table one behind the other.
func guessRow(source *rand.Rand, x *table.Table, n int) []api.Inc {
	now := x.Copy()
	var list []api.Inc
	for range n {
		if i := guess(source); now.Do(i) == api.OK {
			list = append(list, i)
		}
	}
	return list
}

// holdSame holds what the merged row makes of a table against what one row and then the other one make of it; false, if these can't be folded.
func holdSame(t *testing.T, x *table.Table, a, b []api.Inc) bool {
	t.Helper()
	y, _, err := incr.Fold(x, a)
	if err != api.OK {
		return false
	}
	z, _, err := incr.Fold(y, b)
	if err != api.OK {
		return false
	}
	merged, err := holdMerge(t, a, b)
	if err != api.OK {
		t.Fatalf("%v and %v: error %d", a, b, err)
	}
	got, n, err := incr.Fold(x, merged)
	if err != api.OK || n != len(merged) || !table.Same(got, z) {
		t.Fatalf("%v: %v and %v: at %d error %d: %v, not %v", x.All(), a, b, n, err, got.All(), z.All())
	}
	return true
}

// P8.4: where one row, and then the other one, can be folded, the merged one can, and makes the same.
func TestMergedMakesTheSame(t *testing.T) {
	source := rand.New(rand.NewSource(88))
	for i := range 20_000 {
		x := guessTable(source)
		a := guessRow(source, x, i%12)
		y, _, _ := incr.Fold(x, a)
		if !holdSame(t, x, a, guessRow(source, y, source.Intn(12))) {
			t.Fatalf("%v: %v was refused, or what is behind", x.All(), a)
		}
	}
}

// P8.4, of all pairs of rows of up to two changes of two prefixes, on all tables of these.
func TestMergedOfAllShortRows(t *testing.T) {
	p, q := four(10, 0, 0, 0, 8), four(9, 0, 0, 0, 8)
	ones := row(add(p, 1, 1), change(p, 2, 2), withdraw(p), add(q, 3, 3), change(q, 4, 4), withdraw(q))
	rows := [][]api.Inc{nil}
	for _, one := range ones {
		rows = append(rows, row(one))
		for _, two := range ones {
			rows = append(rows, row(one, two))
		}
	}
	done := 0
	for _, x := range []*table.Table{of(t), of(t, way(p, 5, 5)), of(t, way(q, 6, 6)), of(t, way(p, 5, 5), way(q, 6, 6))} {
		for _, a := range rows {
			for _, b := range rows {
				holdMerge(t, a, b)
				if holdSame(t, x, a, b) {
					done++
				}
			}
		}
	}
	if done < 500 {
		t.Error(done)
	}
}

// P8.4, up to where the table is full at the end, and in a full one whose merged row withdraws ahead of adding.
func TestMergedUpToAFullTable(t *testing.T) {
	near, full := of(t, routes(298)...), of(t, routes(300)...)
	for i, c := range []struct {
		x    *table.Table
		a, b []api.Inc
	}{
		{near, row(add(nth(298), 1, 1)), row(change(nth(298), 2, 2), add(nth(299), 1, 1), change(nth(0), 1, 1))},
		{near, row(withdraw(nth(0)), add(nth(298), 1, 1)), row(add(nth(0), 1, 1), add(nth(299), 1, 1))},
		{of(t), adds(150), adds(300)[150:]},
		{full, row(withdraw(nth(7)), change(nth(8), 1, 1)), row(add(nth(7), 1, 1), withdraw(nth(9)))},
		{full, row(withdraw(nth(7))), row(add(nth(400), 1, 1))},
	} {
		if !holdSame(t, c.x, c.a, c.b) {
			t.Errorf("%d was refused", i)
		}
	}
}

// P8.4: rows that lead from table to table merge to what leads from the first to the last one, but for changes that change nothing.
func TestMergedChangesOfTables(t *testing.T) {
	source := rand.New(rand.NewSource(888))
	for range 5000 {
		x, y, z := guessTable(source), guessTable(source), guessTable(source)
		merged, err := holdMerge(t, table.Changes(x, y), table.Changes(y, z))
		if err != api.OK {
			t.Fatalf("error %d", err)
		}
		some := slices.DeleteFunc(slices.Clone(merged), func(i api.Inc) bool {
			r, there := x.Get(i.Route.To)
			return i.Kind == api.IChange && there && r == i.Route
		})
		if want := table.Changes(x, z); !slices.Equal(some, want) {
			t.Fatalf("%v, not %v", some, want)
		}
	}
}

// P8.3: a merged row has each prefix once, so that it stays by itself; and of three rows that follow, it makes no odds which two are merged first.
func TestMergeOfThree(t *testing.T) {
	source := rand.New(rand.NewSource(8888))
	for range 5000 {
		x := guessTable(source)
		list := guessRow(source, x, 15)
		one := source.Intn(len(list) + 1)
		two := one + source.Intn(len(list)-one+1)
		a, b, c := list[:one], list[one:two], list[two:]
		ab, _ := holdMerge(t, a, b)
		bc, _ := holdMerge(t, b, c)
		front, err := holdMerge(t, ab, c)
		back, wrong := holdMerge(t, a, bc)
		if err != api.OK || wrong != api.OK || !slices.Equal(front, back) {
			t.Fatalf("%v, error %d; %v, error %d", front, err, back, wrong)
		}
		if again, err := holdMerge(t, front, nil); err != api.OK || !slices.Equal(again, front) {
			t.Fatalf("%v, error %d; not %v", again, err, front)
		}
	}
}

// P8.1: what is written is read as it was; unlike rows have unlike bytes.
func TestWhatIsWrittenIsRead(t *testing.T) {
	source := rand.New(rand.NewSource(81))
	seen := map[string][]api.Inc{}
	for i := range 5000 {
		var list []api.Inc
		for range source.Intn([]int{2, 4, 10, 201}[i%4]) {
			list = append(list, guess(source))
		}
		s := printed(t, list...)
		if hold(t, s) != api.OK {
			t.Fatalf("%x is none", s)
		}
		if got, err := incr.Read(s); err != api.OK || !slices.Equal(got, list) {
			t.Fatalf("%x: error %d", s, err)
		}
		if other, ok := seen[s]; ok && !slices.Equal(other, list) {
			t.Fatalf("%x: of two rows", s)
		}
		seen[s] = list
	}
}

// P8.1, of bytes that differ from a row's by a byte that is another one, that goes, or that comes.
func TestReadOfBytesNearby(t *testing.T) {
	source := rand.New(rand.NewSource(811))
	count := map[api.Errno]int{}
	for range 25 {
		s := printed(t, guess(source), guess(source), guess(source))
		for i := range len(s) + 1 {
			for b := range 256 {
				count[hold(t, s[:i]+string([]byte{byte(b)})+s[i:])]++
				if i < len(s) {
					count[hold(t, s[:i]+string([]byte{byte(b)})+s[i+1:])]++
				}
			}
			if i < len(s) {
				count[hold(t, s[:i]+s[i+1:])]++
			}
		}
	}
	for _, err := range []api.Errno{api.OK, api.ErrShort, api.ErrForm, api.ErrBig, api.ErrArg} {
		if count[err] < 20 {
			t.Errorf("error %d: only %d", err, count[err])
		}
	}
}

// P8.1, of all short bytes of some letters, with which two changes can be told.
func TestReadOfAllShortBytes(t *testing.T) {
	letters := []string{"\x00", "\x01", "\x02", "\x03", "\x08", "\x40", "\x80"}
	list := []string{""}
	right := 0
	for range 7 {
		var next []string
		for _, s := range list {
			for _, b := range letters {
				// What is wrong ahead of the end stays so, whatever stands behind.
				switch hold(t, s+b) {
				case api.OK:
					right++
					next = append(next, s+b)
				case api.ErrShort:
					next = append(next, s+b)
				}
			}
		}
		list = next
	}
	if right < 100 {
		t.Error(right)
	}
}

// P8.1 to P8.4, of any bytes: as a row's, cut in two anywhere, on a table.
func FuzzRead(f *testing.F) {
	f.Add("\x03"+"\x01\x08\x0a\xac\x02\x01"+"\x02\x08\x0a\x01\xff\xff\xff\xff\x0f"+"\x03\x08\x0a", 1)
	f.Add("\x02"+"\x03\x40"+"\x01\x40\x00\x00", 1)
	f.Add("\x01"+"\x01\xc0"+strings.Repeat("\xff", 16)+"\xfe\xff\x03\xff\xff\xff\xff\x0f", 0)
	f.Fuzz(func(t *testing.T, s string, cut int) {
		if hold(t, s) != api.OK {
			return
		}
		list, _ := incr.Read(s)
		cut = max(0, min(cut, len(list)))
		x := of(t, way(four(10, 0, 0, 0, 8), 1, 1), way(api.Prefix{Six: true}, 1, 1))
		holdFold(t, x, list)
		holdMerge(t, list[:cut], list[cut:])
		holdSame(t, x, list[:cut], list[cut:])
	})
}
