package node

import (
	"sumpter/api"
	"sumpter/octet"
)

// write is a leaf's or a stem's bytes.
func write(shape any) []byte {
	switch x := shape.(type) {
	case leaf:
		return x.write()
	case stem:
		return x.write()
	}
	return nil
}

func putNum(b []byte, n int) []byte     { return append(b, octet.Num(uint64(n))...) }
func putText(b []byte, s string) []byte { return append(b, octet.Text(s)...) }

func (l leaf) write() []byte {
	b := putNum([]byte{leafMark}, len(l.pairs))
	for _, p := range l.pairs {
		b = putText(putText(b, p.Key), p.Value)
	}
	return b
}

func (s stem) write() []byte {
	b := putNum([]byte{stemMark}, len(s.kids))
	for _, k := range s.kids {
		b = putNum(b, k)
	}
	for _, p := range s.pivots {
		b = putText(b, p)
	}
	for _, l := range s.buffers {
		b = putNum(b, len(l))
		for _, x := range l {
			b = append(b, octet.Num(x.Seq)...)
			b = putOp(b, x.Op)
		}
	}
	return b
}

// putOp writes an operation that writes.
func putOp(b []byte, o api.Op) []byte {
	b = append(b, byte(o.Kind))
	switch o.Kind {
	case api.Put:
		return putText(putText(b, o.Key), o.Value)
	case api.Del:
		return putText(b, o.Key)
	}
	return putText(putText(b, o.Lo), o.Hi)
}

// reader reads bytes; behind an error it reads noughts.
type reader struct {
	rest  []byte
	errno api.Errno
}

// fail keeps the first error.
func (r *reader) fail(e api.Errno) {
	if r.errno == api.OK {
		r.errno = e
		r.rest = nil
	}
}

func (r *reader) octet() byte {
	if len(r.rest) == 0 {
		r.fail(api.ErrShort)
		return 0
	}
	b := r.rest[0]
	r.rest = r.rest[1:]
	return b
}

func (r *reader) num(most uint64) uint64 {
	n, k, e := octet.ReadNum(r.rest)
	if e == api.OK && n > most {
		e = api.ErrForm
	}
	if e != api.OK {
		r.fail(e)
		return 0
	}
	r.rest = r.rest[k:]
	return n
}

func (r *reader) count() int { return int(r.num(api.MaxPage)) }

func (r *reader) text() string {
	s, k, e := octet.ReadText(r.rest, api.MaxPage)
	if e == api.ErrLong {
		e = api.ErrForm
	}
	if e != api.OK {
		r.fail(e)
		return ""
	}
	r.rest = r.rest[k:]
	return s
}

// more tells whether an i-th of n things is to be read.
func (r *reader) more(i, n int) bool { return r.errno == api.OK && i < n }

// read is the leaf or the stem of some bytes.
func read(b []byte) (any, api.Errno) {
	r := &reader{rest: b}
	var s any
	switch r.octet() {
	case leafMark:
		s = r.leaf()
	case stemMark:
		s = r.stem()
	default:
		r.fail(api.ErrForm)
	}
	if len(r.rest) > 0 {
		r.fail(api.ErrForm)
	}
	return s, r.errno
}

func (r *reader) leaf() leaf {
	var l leaf
	n := r.count()
	for i := 0; r.more(i, n); i++ {
		key := r.text()
		l.pairs = append(l.pairs, api.Pair{Key: key, Value: r.text()})
	}
	return l
}

func (r *reader) stem() stem {
	var s stem
	n := r.count()
	for i := 0; r.more(i, n); i++ {
		s.kids = append(s.kids, int(r.num(mostKid)))
	}
	for i := 0; r.more(i, n-1); i++ {
		s.pivots = append(s.pivots, r.text())
	}
	for i := 0; r.more(i, n); i++ {
		s.buffers = append(s.buffers, r.entries())
	}
	return s
}

func (r *reader) entries() []api.Entry {
	var l []api.Entry
	n := r.count()
	for i := 0; r.more(i, n); i++ {
		seq := r.num(1<<64 - 1)
		l = append(l, api.Entry{Seq: seq, Op: r.op()})
	}
	return l
}

func (r *reader) op() api.Op {
	o := api.Op{Kind: int(r.octet())}
	switch o.Kind {
	case api.Put:
		o.Key = r.text()
		o.Value = r.text()
	case api.Del:
		o.Key = r.text()
	case api.Clear:
		o.Lo = r.text()
		o.Hi = r.text()
	default:
		r.fail(api.ErrForm)
	}
	return o
}
