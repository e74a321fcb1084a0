package reader_test

import (
	"slices"
	"testing"

	"sumpter/api"
	"sumpter/reader"
)

func TestReads(t *testing.T) {
	r := reader.New([]byte("\x07\xac\x02\x02ab\x02\x01\x02"))
	a, n, s := r.Octet(), r.Num(300), r.Text(2)
	l := reader.List(r, 2, (*reader.Reader).Octet)
	r.End()
	if a != 7 || n != 300 || s != "ab" || !slices.Equal(l, []byte{1, 2}) || r.Err() != api.OK {
		t.Errorf("%d %d %q %v %d", a, n, s, l, r.Err())
	}
}

func TestFails(t *testing.T) {
	for i, x := range []struct {
		b    string
		read func(r *reader.Reader)
		e    api.Errno
	}{
		{"", func(r *reader.Reader) { r.Octet() }, api.ErrShort},
		{"\x80", func(r *reader.Reader) { r.Num(9) }, api.ErrShort},
		{"\x0a", func(r *reader.Reader) { r.Num(9) }, api.ErrForm},
		{"\x80\x00", func(r *reader.Reader) { r.Num(9) }, api.ErrForm},
		{"\x02a", func(r *reader.Reader) { r.Text(2) }, api.ErrShort},
		{"\x03abc", func(r *reader.Reader) { r.Text(2) }, api.ErrForm},
		{"a", func(r *reader.Reader) { r.End() }, api.ErrForm},
		{"\x03ab", func(r *reader.Reader) { reader.List(r, 3, (*reader.Reader).Octet) }, api.ErrShort},
		{"\x04ab", func(r *reader.Reader) { reader.List(r, 3, (*reader.Reader).Octet) }, api.ErrForm},
	} {
		r := reader.New([]byte(x.b))
		x.read(r)
		if r.Err() != x.e {
			t.Errorf("%d: %d, want %d", i, r.Err(), x.e)
		}
		r.Fail(api.ErrArg)
		if r.Octet() != 0 || r.Err() != x.e {
			t.Errorf("%d: behind its first error: %d", i, r.Err())
		}
	}
}
