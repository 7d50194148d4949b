// Package varint is layer 1: see shared/doc/01-varint.md.
package varint

import "signpost/api"

// levels is how many texts a Writer keeps.
const levels = 5

// Writer: puts bytes together.
//
// It keeps texts, not a slice, so that a copied Writer shares no spare room with the one it was copied from. It keeps several, so that many short writes don't copy all that is there each time: a text that is full goes behind the one of the next level, which has 64 times its room.
type Writer struct {
	parts [levels]string // the bytes of a higher level are ahead of those of a lower one
}

// room is how long the text of a level may become before it goes to the next one.
func room(level int) int { return 64 << (6 * level) }

// Byte: one.
func (w *Writer) Byte(b byte) { w.Raw(string([]byte{b})) }

// Uint: a number, seven bits a byte.
func (w *Writer) Uint(n uint64) {
	list := make([]byte, 0, 10)
	for n >= 0x80 {
		list = append(list, byte(n)|0x80)
		n >>= 7
	}
	w.Raw(string(append(list, byte(n))))
}

// Int: a number that may be below 0.
func (w *Writer) Int(n int) {
	if n < 0 {
		// -2n - 1 is written as 2(-n - 1) + 1, which doesn't overflow for the least number.
		w.Uint(uint64(-(n+1))*2 + 1)
		return
	}
	w.Uint(uint64(n) * 2)
}

// Text: a text, and its length.
func (w *Writer) Text(s string) {
	w.Uint(uint64(len(s)))
	w.Raw(s)
}

// Raw: bytes as they are.
func (w *Writer) Raw(s string) {
	if w == nil {
		return
	}
	w.parts[0] += s
	for i := 0; i+1 < levels && len(w.parts[i]) >= room(i); i++ {
		w.parts[i+1] += w.parts[i]
		w.parts[i] = ""
	}
}

// String: all of them.
func (w *Writer) String() string {
	if w == nil {
		return ""
	}
	all := ""
	for _, part := range w.parts {
		all = part + all
	}
	return all
}

// Reader: takes bytes apart.
type Reader struct {
	rest string
	err  api.Errno
}

// NewReader: of some bytes.
func NewReader(s string) *Reader { return &Reader{rest: s} }

// Byte: one.
func (r *Reader) Byte() byte {
	one := r.Raw(1)
	if one == "" {
		return 0
	}
	return one[0]
}

// Uint: a number.
func (r *Reader) Uint() uint64 {
	var n uint64
	for shift := 0; ; shift += 7 {
		b := r.Byte()
		if r.Err() != api.OK {
			return 0
		}
		// The tenth byte has room for bit 63 alone, and may not go on: so the loop ends there.
		if shift > 0 && b == 0 || shift == 63 && b > 1 {
			r.err = api.ErrForm
			return 0
		}
		n |= uint64(b&0x7f) << shift
		if b < 0x80 {
			return n
		}
	}
}

// Int: one that may be below 0.
func (r *Reader) Int() int {
	n := r.Uint()
	half := int(n / 2)
	if n%2 == 1 {
		return -half - 1
	}
	return half
}

// Text: a text of at most so many bytes.
func (r *Reader) Text(most int) string {
	n := r.Uint()
	if r.Err() != api.OK {
		return ""
	}
	if most < 0 || n > uint64(most) {
		r.err = api.ErrBig
		return ""
	}
	return r.Raw(int(n))
}

// Raw: so many bytes.
func (r *Reader) Raw(n int) string {
	if r.Err() != api.OK {
		return ""
	}
	if n < 0 {
		r.err = api.ErrArg
		return ""
	}
	if n > len(r.rest) {
		r.err = api.ErrShort
		return ""
	}
	s := r.rest[:n]
	r.rest = r.rest[n:]
	return s
}

// Left: how many bytes are left, also once something was wrong.
func (r *Reader) Left() int {
	if r == nil {
		return 0
	}
	return len(r.rest)
}

// Err: what was wrong first.
func (r *Reader) Err() api.Errno {
	if r == nil {
		return api.ErrNil
	}
	return r.err
}

// Done: is all taken, and was nothing wrong?
func (r *Reader) Done() api.Errno {
	if err := r.Err(); err != api.OK {
		return err
	}
	// It isn't kept as what was wrong: one may ask, and then read on.
	if r.Left() > 0 {
		return api.ErrForm
	}
	return api.OK
}
