// Package fields is numbers and texts as bytes.
package fields

import (
	"math/bits"
	"slices"

	"doorman/api"
)

// mostBehind is how many bytes may be behind a number's first one.
const mostBehind = 8

// Put is numbers as bytes, one behind the other.
func Put(l ...uint64) []byte {
	var out []byte
	for _, n := range l {
		out = addNumber(out, n)
	}
	return out
}

// Take is the number that bytes begin with, and how many bytes it has.
func Take(b []byte) (uint64, int, api.Errno) {
	if len(b) == 0 {
		return 0, 0, api.ErrShort
	}
	behind := int(b[0])
	if behind > mostBehind {
		return 0, 0, api.ErrForm
	}
	if len(b)-1 < behind {
		return 0, 0, api.ErrShort
	}
	// With noughts ahead a number would have more than one row of bytes.
	if behind > 0 && b[1] == 0 {
		return 0, 0, api.ErrForm
	}
	var n uint64
	for i := range behind {
		n = n<<8 | uint64(b[1+i])
	}
	return n, 1 + behind, api.OK
}

// Texts is texts as bytes.
func Texts(l ...string) []byte {
	return addTexts(nil, l)
}

// Lists is a list of texts as bytes.
func Lists(l []string) []byte {
	return addTexts(Put(uint64(len(l))), l)
}

// Reader reads bytes from their beginning on.
type Reader struct {
	rest []byte
	err  api.Errno
}

// Open is a reader of bytes.
func Open(b []byte) *Reader {
	return &Reader{rest: slices.Clone(b)}
}

// Num is the next number.
func (r *Reader) Num() uint64 {
	if r.Err() != api.OK {
		return 0
	}
	n, size, e := Take(r.rest)
	if e != api.OK {
		r.err = e
		return 0
	}
	r.rest = r.rest[size:]
	return n
}

// Text is the next text.
func (r *Reader) Text() string {
	n := r.Num()
	if r.Err() != api.OK {
		return ""
	}
	// Held against each other as they are: as an int a great number would be below 0.
	if n > uint64(len(r.rest)) {
		r.err = api.ErrShort
		return ""
	}
	s := string(r.rest[:n])
	r.rest = r.rest[n:]
	return s
}

// List is the next list of texts, of so many at most.
func (r *Reader) List(most int) []string {
	n := r.Num()
	if r.Err() != api.OK {
		return nil
	}
	if n > uint64(max(most, 0)) {
		r.err = api.ErrLong
		return nil
	}
	// The list grows with what is read: the number alone may promise more than there is.
	var l []string
	for range n {
		s := r.Text()
		if r.Err() != api.OK {
			return nil
		}
		l = append(l, s)
	}
	return l
}

// Left is how many bytes are left.
func (r *Reader) Left() int {
	if r == nil {
		return 0
	}
	return len(r.rest)
}

// Err is the first error.
func (r *Reader) Err() api.Errno {
	if r == nil {
		return api.ErrShort
	}
	return r.err
}

// End is the first error; else whether bytes are left.
func (r *Reader) End() api.Errno {
	if e := r.Err(); e != api.OK {
		return e
	}
	if r.Left() > 0 {
		return api.ErrLeft
	}
	return api.OK
}

// addNumber puts a number's bytes behind others.
func addNumber(out []byte, n uint64) []byte {
	behind := (bits.Len64(n) + 7) / 8
	out = append(out, byte(behind))
	for i := range behind {
		out = append(out, byte(n>>(8*(behind-1-i))))
	}
	return out
}

// addTexts puts the bytes of texts behind others.
func addTexts(out []byte, l []string) []byte {
	for _, s := range l {
		out = addNumber(out, uint64(len(s)))
		out = append(out, s...)
	}
	return out
}
