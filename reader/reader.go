// Package reader reads bytes from their beginning on, one thing behind the other: layers 13, 18 and 19 read with it.
package reader

import (
	"sumpter/api"
	"sumpter/octet"
)

// Reader keeps what is left, and the first error; behind it, it reads noughts.
type Reader struct {
	rest  []byte
	errno api.Errno
}

// New makes one of some bytes, which are not changed.
func New(b []byte) *Reader { return &Reader{rest: b} }

// Err is the first error.
func (r *Reader) Err() api.Errno { return r.errno }

// Fail keeps an error, if it is the first one.
func (r *Reader) Fail(e api.Errno) {
	if r.errno == api.OK {
		r.errno = e
		r.rest = nil
	}
}

// Octet reads a byte.
func (r *Reader) Octet() byte {
	if len(r.rest) == 0 {
		r.Fail(api.ErrShort)
		return 0
	}
	b := r.rest[0]
	r.rest = r.rest[1:]
	return b
}

// Num reads a number: one above most has the wrong form.
func (r *Reader) Num(most uint64) uint64 {
	n, k, e := octet.ReadNum(r.rest)
	if e == api.OK && n > most {
		e = api.ErrForm
	}
	if e != api.OK {
		r.Fail(e)
		return 0
	}
	r.rest = r.rest[k:]
	return n
}

// Text reads a text: one of more than most bytes has the wrong form.
func (r *Reader) Text(most int) string {
	s, k, e := octet.ReadText(r.rest, most)
	if e == api.ErrLong {
		e = api.ErrForm
	}
	if e != api.OK {
		r.Fail(e)
		return ""
	}
	r.rest = r.rest[k:]
	return s
}

// End is where nothing may stand any more.
func (r *Reader) End() {
	if len(r.rest) > 0 {
		r.Fail(api.ErrForm)
	}
}

// Times reads n things, up to the first error.
func Times[T any](r *Reader, n int, one func(r *Reader) T) []T {
	var l []T
	for i := 0; i < n && r.errno == api.OK; i++ {
		l = append(l, one(r))
	}
	return l
}

// List reads how many things there are, then these.
func List[T any](r *Reader, most uint64, one func(r *Reader) T) []T {
	return Times(r, int(r.Num(most)), one)
}
