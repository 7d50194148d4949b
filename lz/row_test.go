package lz_test

import (
	"bytes"
	"slices"
	"strconv"
	"strings"
	"testing"

	"signpost/api"
	"signpost/lz"
)

// bytesOf is a row of 0 and 1 as bytes, noughts behind; blanks in it don't count.
func bytesOf(row string) string {
	row = strings.ReplaceAll(row, " ", "")
	list := make([]byte, (len(row)+7)/8)
	for i, c := range []byte(row) {
		list[i/8] |= (c - '0') << (i % 8)
	}
	return string(list)
}

// rowOf are the bits of bytes as a row of 0 and 1.
func rowOf(s string) string {
	var row []byte
	for _, b := range []byte(s) {
		for i := range 8 {
			row = append(row, '0'+b>>i&1)
		}
	}
	return string(row)
}

// turned is a row from its end.
func turned(row string) string {
	list := []byte(row)
	slices.Reverse(list)
	return string(list)
}

// code is a number's code as a row.
func code(v uint64) string {
	digits := strconv.FormatUint(v+1, 2)
	return strings.Repeat("0", len(digits)-1) + "1" + turned(digits[1:])
}

// single is a byte's token as a row.
func single(b byte) string { return "0" + rowOf(string([]byte{b})) }

// double is a copy's token as a row.
func double(back, length uint64) string { return "1" + code(back-1) + code(length-3) }

// judge reads packed bytes by their row, as the document has it.
type judge struct {
	row string
	err api.Errno // what is wrong first
}

// wrong keeps what is wrong first.
func (j *judge) wrong(err api.Errno) {
	if j.err == api.OK {
		j.err = err
	}
}

// bits are the next n.
func (j *judge) bits(n int) string {
	if j.err != api.OK || len(j.row) < n {
		j.wrong(api.ErrShort)
		return strings.Repeat("0", n)
	}
	got := j.row[:n]
	j.row = j.row[n:]
	return got
}

// number is the next one.
func (j *judge) number() uint64 {
	noughts := len(j.row) - len(strings.TrimLeft(j.row, "0"))
	if noughts >= 64 {
		j.wrong(api.ErrForm)
	}
	if j.err != api.OK {
		return 0
	}
	j.bits(noughts)
	v, _ := strconv.ParseUint(turned(j.bits(noughts+1)), 2, 64)
	// The 1 stands first, but it is the highest bit.
	return v>>1 | 1<<noughts - 1
}

// judged are the tokens and the text of packed bytes, and what is wrong with them.
func judged(s string) (list []lz.Token, whole string, err api.Errno) {
	var text []byte
	j := &judge{row: rowOf(s)}
	size := j.number()
	if j.err == api.OK && size > 65536 {
		j.err = api.ErrBig
	}
	for j.err == api.OK && uint64(len(text)) < size {
		if j.bits(1) == "0" {
			b, _ := strconv.ParseUint(turned(j.bits(8)), 2, 8)
			list = append(list, lz.Token{B: byte(b)})
			text = append(text, byte(b))
			continue
		}
		back, more := j.number(), j.number()
		switch {
		case j.err != api.OK:
		case back+1 > uint64(len(text)):
			j.err = api.ErrRange
		case more > 65536 || uint64(len(text))+more+3 > size:
			j.err = api.ErrForm
		default:
			list = append(list, lz.Token{Back: int(back) + 1, Len: int(more) + 3})
			// What is copied is a piece of the text, over and over.
			piece := bytes.Repeat(text[len(text)-int(back)-1:], int(more+3)/int(back+1)+1)
			text = append(text, piece[:more+3]...)
		}
	}
	if j.err == api.OK && (len(j.row) >= 8 || strings.Contains(j.row, "1")) {
		j.err = api.ErrForm
	}
	if j.err != api.OK {
		return nil, "", j.err
	}
	return list, string(text), api.OK
}

// hold holds Tokens and Unpack against the judge.
func hold(t *testing.T, s string) {
	t.Helper()
	list, text, err := judged(s)
	if got, e := lz.Tokens(s); !slices.Equal(got, list) || e != err {
		t.Errorf("%x: tokens %v, error %d; not %v, error %d", s, got, e, list, err)
	}
	for _, most := range []int{-1, len(text) - 1, len(text), len(text) + 1, 65536, 1 << 40} {
		want, wrong := text, err
		if err == api.OK && len(text) > most {
			want, wrong = "", api.ErrBig
		}
		if got, e := lz.Unpack(s, most); got != want || e != wrong {
			t.Errorf("%x, %d: text %x, error %d; not %x, error %d", s, most, got, e, want, wrong)
		}
	}
}
