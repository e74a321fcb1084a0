package record

import (
	"sumpter/api"
	"sumpter/octet"
)

const (
	shardMark = 0x53
	coordMark = 0x43
)

// writer keeps the bytes that were written.
type writer struct{ b []byte }

func (w *writer) num(n uint64)  { w.b = append(w.b, octet.Num(n)...) }
func (w *writer) small(n int)   { w.num(uint64(n)) }
func (w *writer) text(s string) { w.b = append(w.b, octet.Text(s)...) }

// list writes how many things there are, then these.
func list[T any](w *writer, l []T, one func(x T)) {
	w.small(len(l))
	each(one, l...)
}

// each writes some things one behind the other.
func each[T any](one func(x T), l ...T) {
	for _, x := range l {
		one(x)
	}
}

func (w *writer) owner(o api.Owner) {
	w.text(o.Lo)
	w.small(o.Shard)
}

func (w *writer) op(o api.Op) {
	w.small(o.Kind)
	each(w.text, o.Key, o.Value, o.Lo, o.Hi)
	w.small(o.Most)
}

func (w *writer) hold(h api.Hold) {
	w.num(h.Txn)
	list(w, h.Ops, w.op)
}

func (w *writer) decision(d api.Decision) {
	w.num(d.Txn)
	w.small(d.Client)
	each(w.num, d.Boot, d.Req)
	list(w, d.Shards, w.small)
}

func (w *writer) pair(p api.Pair) { each(w.text, p.Key, p.Value) }

func (w *writer) result(r api.Result) {
	found := 0
	if r.Found {
		found = 1
	}
	w.small(found)
	w.text(r.Value)
	list(w, r.Pairs, w.pair)
}

func (w *writer) last(l api.Last) {
	w.small(l.Client)
	each(w.num, l.Boot, l.Req)
	list(w, l.Results, w.result)
}

// EncodeShard is a shard's state as bytes.
func EncodeShard(s api.Shard) ([]byte, api.Errno) {
	if e := CheckShard(s); e != api.OK {
		return nil, e
	}
	w := &writer{[]byte{shardMark}}
	w.small(s.Id)
	each(w.num, s.Boot, s.Ver, s.Epoch, s.Move)
	list(w, s.Owners, w.owner)
	list(w, s.Held, w.hold)
	list(w, s.Finished, w.num)
	each(w.num, s.Low, s.Frozen)
	each(w.text, s.Cold.Lo, s.Cold.Hi)
	each(w.num, s.In.Move, s.In.Attempt, s.In.Next)
	each(w.text, s.In.Range.Lo, s.In.Range.Hi)
	return w.b, api.OK
}

// EncodeCoord is the coordinator's state as bytes.
func EncodeCoord(c api.Coord) ([]byte, api.Errno) {
	if e := CheckCoord(c); e != api.OK {
		return nil, e
	}
	w := &writer{[]byte{coordMark}}
	w.small(c.Shards)
	each(w.num, c.Boot, c.Ver, c.Epoch)
	list(w, c.Owners, w.owner)
	list(w, c.Decided, w.decision)
	list(w, c.Last, w.last)
	return w.b, api.OK
}
