package node

import (
	"sumpter/api"
	"sumpter/octet"
	"sumpter/reader"
)

// write is a leaf's or a stem's bytes.
func write(shape any) []byte {
	switch x := shape.(type) {
	case leaf:
		return x.write()
	case stem:
		return x.write()
	}
	return nil
}

func putNum(b []byte, n int) []byte     { return append(b, octet.Num(uint64(n))...) }
func putText(b []byte, s string) []byte { return append(b, octet.Text(s)...) }

func (l leaf) write() []byte {
	b := putNum([]byte{leafMark}, len(l.pairs))
	for _, p := range l.pairs {
		b = putText(putText(b, p.Key), p.Value)
	}
	return b
}

func (s stem) write() []byte {
	b := putNum([]byte{stemMark}, len(s.kids))
	for _, k := range s.kids {
		b = putNum(b, k)
	}
	for _, p := range s.pivots {
		b = putText(b, p)
	}
	for _, l := range s.buffers {
		b = putNum(b, len(l))
		for _, x := range l {
			b = append(b, octet.Num(x.Seq)...)
			b = putOp(b, x.Op)
		}
	}
	return b
}

// putOp writes an operation that writes.
func putOp(b []byte, o api.Op) []byte {
	b = append(b, byte(o.Kind))
	switch o.Kind {
	case api.Put:
		return putText(putText(b, o.Key), o.Value)
	case api.Del:
		return putText(b, o.Key)
	}
	return putText(putText(b, o.Lo), o.Hi)
}

// most is how many there are of anything at the most, and how long a text is.
const most = api.MaxPage

// read is the leaf or the stem of some bytes.
func read(b []byte) (any, api.Errno) {
	r := reader.New(b)
	var s any
	switch r.Octet() {
	case leafMark:
		s = leaf{reader.List(r, most, readPair)}
	case stemMark:
		s = readStem(r)
	default:
		r.Fail(api.ErrForm)
	}
	r.End()
	return s, r.Err()
}

func readText(r *reader.Reader) string { return r.Text(most) }

func readKid(r *reader.Reader) int { return int(r.Num(mostKid)) }

func readPair(r *reader.Reader) api.Pair {
	key := readText(r)
	return api.Pair{Key: key, Value: readText(r)}
}

func readStem(r *reader.Reader) stem {
	var s stem
	s.kids = reader.List(r, most, readKid)
	n := len(s.kids)
	s.pivots = reader.Times(r, n-1, readText)
	s.buffers = reader.Times(r, n, readEntries)
	return s
}

func readEntries(r *reader.Reader) []api.Entry { return reader.List(r, most, readEntry) }

func readEntry(r *reader.Reader) api.Entry {
	seq := r.Num(1<<64 - 1)
	return api.Entry{Seq: seq, Op: readOp(r)}
}

func readOp(r *reader.Reader) api.Op {
	o := api.Op{Kind: int(r.Octet())}
	switch o.Kind {
	case api.Put:
		o.Key = readText(r)
		o.Value = readText(r)
	case api.Del:
		o.Key = readText(r)
	case api.Clear:
		o.Lo = readText(r)
		o.Hi = readText(r)
	default:
		r.Fail(api.ErrForm)
	}
	return o
}
