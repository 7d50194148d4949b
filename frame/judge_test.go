package frame_test

import (
	"encoding/binary"
	"fmt"
	"hash/crc32"
	"math"
	"math/rand"
	"strings"
	"testing"

	"signpost/api"
	"signpost/frame"
)

// around is how many bytes stand around a frame's Data.
const around = 19

// text: so many bytes, any ones, the same each time.
func text(n int) string {
	list := make([]byte, n)
	rand.New(rand.NewSource(int64(n))).Read(list)
	return string(list)
}

// sealed: bytes with their sum behind them, whatever they are.
func sealed(s string) string {
	return string(binary.LittleEndian.AppendUint32([]byte(s), crc32.ChecksumIEEE([]byte(s))))
}

// plain is a frame, each byte of whose numbers is unlike all others.
func plain(data string) api.Frame {
	return api.Frame{Kind: api.FData, Session: 0xa1b2c3d4, Epoch: 0xe5f60718, Index: 0x293a, Total: 0x4b5c, Data: data}
}

// raw: sealed bytes as a frame has them, of any numbers, and with any told length.
func raw(kind byte, session, epoch uint32, index, total, length uint16, data string) string {
	list := []byte{kind}
	list = binary.BigEndian.AppendUint32(list, session)
	list = binary.BigEndian.AppendUint32(list, epoch)
	list = binary.BigEndian.AppendUint16(list, index)
	list = binary.BigEndian.AppendUint16(list, total)
	list = binary.BigEndian.AppendUint16(list, length)
	return sealed(string(list) + data)
}

// rightJudged: may it be, by the chapter's words?
func rightJudged(f api.Frame) bool {
	switch {
	case f.Kind != 1 && f.Kind != 2:
		return false
	case f.Session < 0 || f.Session > 4294967295 || f.Epoch < 0 || f.Epoch > 4294967295:
		return false
	case f.Index < 0 || f.Index > 65535 || f.Total < 0 || f.Total > 65535:
		return false
	default:
		return len(f.Data) <= 65000
	}
}

// printJudged: its bytes, by the chapter's words.
func printJudged(f api.Frame) (string, api.Errno) {
	if !rightJudged(f) {
		return "", api.ErrArg
	}
	return raw(byte(f.Kind), uint32(f.Session), uint32(f.Epoch), uint16(f.Index), uint16(f.Total), uint16(len(f.Data)), f.Data), api.OK
}

// readJudged: the frame of bytes, by the chapter's words.
func readJudged(s string) (api.Frame, api.Errno) {
	list := []byte(s)
	if len(list) < around {
		return api.Frame{}, api.ErrShort
	}
	if len(list) != around+int(list[13])*256+int(list[14]) {
		return api.Frame{}, api.ErrForm
	}
	end := len(list) - 4
	if binary.LittleEndian.Uint32(list[end:]) != crc32.ChecksumIEEE(list[:end]) {
		return api.Frame{}, api.ErrSum
	}
	f := api.Frame{
		Kind:    int(list[0]),
		Session: int(binary.BigEndian.Uint32(list[1:])),
		Epoch:   int(binary.BigEndian.Uint32(list[5:])),
		Index:   int(binary.BigEndian.Uint16(list[9:])),
		Total:   int(binary.BigEndian.Uint16(list[11:])),
		Data:    string(list[15:end]),
	}
	if !rightJudged(f) {
		return api.Frame{}, api.ErrArg
	}
	return f, api.OK
}

// told: a frame for a test's message, of its Data the first bytes.
func told(f api.Frame) string {
	return fmt.Sprintf("{kind %d, session %d, epoch %d, index %d of %d, %d bytes %.20x}", f.Kind, f.Session, f.Epoch, f.Index, f.Total, len(f.Data), f.Data)
}

// expectPrinted holds that a frame is told, printed and read again as the judge does it; and answers its bytes.
func expectPrinted(t *testing.T, f api.Frame) (string, api.Errno) {
	t.Helper()
	want, wantErr := printJudged(f)
	if got := frame.Right(f); got != (wantErr == api.OK) {
		t.Fatalf("%s: right %t", told(f), got)
	}
	s, err := frame.Print(f)
	if s != want || err != wantErr {
		t.Fatalf("%s: printed %.60x, error %d, not %.60x, error %d", told(f), s, err, want, wantErr)
	}
	if err == api.OK {
		if got, err := frame.Read(s); got != f || err != api.OK {
			t.Fatalf("%s: read as %s, error %d", told(f), told(got), err)
		}
	}
	return s, err
}

// expectRead holds that bytes are read as the judge does it, and a frame that is read is printed again; and answers the error.
func expectRead(t *testing.T, s string) api.Errno {
	t.Helper()
	want, wantErr := readJudged(s)
	got, err := frame.Read(s)
	if got != want || err != wantErr {
		t.Fatalf("%d bytes, %.60x: %s, error %d, not %s, error %d", len(s), s, told(got), err, told(want), wantErr)
	}
	if err == api.OK {
		if again, err := frame.Print(got); again != s || err != api.OK {
			t.Fatalf("%d bytes, %.60x: printed as %.60x, error %d", len(s), s, again, err)
		}
	}
	return err
}

// expectNone holds that bytes are no frame, with that error.
func expectNone(t *testing.T, s string, want api.Errno) {
	t.Helper()
	if got, err := frame.Read(s); got != (api.Frame{}) || err != want {
		t.Fatalf("%d bytes, %.60x: %s, error %d, not %d", len(s), s, told(got), err, want)
	}
}

// edges: numbers at the ends of those from least to most, and far out of them; some of the wrong ones are right ones in their lowest bits.
func edges(least, most int) []int {
	return []int{
		least, least + 1, most - 1, most, (least + most) / 2,
		least - 1, most + 1, -most, -most - 1, -most - 2, 2*most + 1, 2*most + 2,
		math.MinInt, math.MinInt + 1, math.MinInt + 2, math.MinInt32, math.MaxInt32,
		-1 << 32, 1<<32 + 1, 1 << 33, 1<<48 + 1, 1<<62 + 1, math.MaxInt - 1, math.MaxInt,
	}
}

// long: any bytes, so many, which cost little to make.
func long(n int) string { return strings.Repeat("\x00\xff\x5a", n/3+1)[:n] }
