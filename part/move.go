package part

import (
	"slices"

	"sumpter/api"
	"sumpter/op"
	"sumpter/owner"
	"sumpter/span"
)

// outbox is what a shard ships of a move.
type outbox struct {
	move   uint64
	in     api.Range
	peer   int
	closes bool
	n      uint64  // the number of the next load, or of that under way
	under  bool    // whether a load is under way
	load   api.Msg // that which is
	where  string  // from where on pairs are still to be shipped
	all    bool    // whether all were
	row    []api.Op
}

// follow puts an operation into the row, as far as it touches the range.
func (b *outbox) follow(o api.Op) {
	s, e := op.Span(o)
	r, meet := span.Meet(s, b.in)
	if e != api.OK || !meet {
		return
	}
	if o.Kind == api.Clear {
		o.Lo, o.Hi = r.Lo, r.Hi
	}
	b.row = append(b.row, o)
}

// ranges are the ranges of the owners that are the shard, or of those that are another one.
func ranges(l []api.Owner, shard int, its bool) []api.Range {
	var out []api.Range
	for i, o := range l {
		if r, e := owner.RangeOf(l, i); e == api.OK && (o.Shard == shard) == its {
			out = append(out, r)
		}
	}
	return out
}

// clearMeets writes a Clear of what each range of others has in common with each of some ranges.
func (t *turn) clearMeets(others, some []api.Range) {
	for _, a := range others {
		for _, b := range some {
			if r, ok := span.Meet(a, b); ok {
				t.write(api.Op{Kind: api.Clear, Lo: r.Lo, Hi: r.Hi})
			}
		}
	}
}

// owners is what a Map does.
func (t *turn) owners(x api.Msg) api.Errno {
	if x.Ver > t.state.Ver {
		t.learn(x)
	}
	t.send(api.Msg{Kind: api.MapAck, Ver: t.state.Ver})
	return api.OK
}

// learn takes over new owners: what is not the shard's any more is cleared.
func (t *turn) learn(x api.Msg) {
	s := &t.state
	had := ranges(s.Owners, s.Id, true)
	s.Ver, s.Epoch, s.Move, s.Owners = x.Ver, x.Epoch, x.Move, slices.Clone(x.Owners)
	others := ranges(s.Owners, s.Id, false)
	if t.out != nil && t.out.move != s.Move {
		t.out = nil
	}
	if s.Frozen != s.Move {
		s.Frozen, s.Cold = 0, api.Range{}
	}
	if s.In.Move != 0 && s.In.Move != s.Move {
		t.clearMeets(others, []api.Range{s.In.Range})
		s.In = api.Inbox{}
	}
	t.clearMeets(others, had)
}

// copyRange is what a Copy does.
func (t *turn) copyRange(x api.Msg) api.Errno {
	s := &t.state
	if x.Ver != s.Ver || x.Move == 0 || x.Move != s.Move || !owner.Owns(s.Owners, s.Id, x.Range) || x.Peer == s.Id {
		return api.OK
	}
	if s.Frozen == x.Move {
		t.send(api.Msg{Kind: api.Frozen, Move: x.Move})
		return api.OK
	}
	if t.out == nil {
		t.out = &outbox{move: x.Move, in: x.Range, peer: x.Peer, where: x.Range.Lo}
	}
	t.out.closes = t.out.closes || x.Flag
	if e := t.ship(); e != api.OK {
		return e
	}
	if t.out != nil && !t.out.closes && !t.out.under {
		t.send(api.Msg{Kind: api.Copied, Move: t.out.move})
	}
	return api.OK
}

// ship ships what is next of a move, or freezes its range.
func (t *turn) ship() api.Errno {
	b := t.out
	if b == nil || b.under {
		return api.OK
	}
	if b.n == 0 || !b.all || len(b.row) > 0 {
		l, e := t.chunk(b)
		if e != api.OK {
			return e
		}
		b.load = api.Msg{Kind: api.Load, To: b.peer, Move: b.move, Attempt: t.state.Boot, N: b.n, Range: b.in, Ops: l}
		b.under = true
		t.send(b.load)
		return api.OK
	}
	if b.closes && !t.touched(b.in) {
		t.state.Frozen, t.state.Cold = b.move, b.in
		t.out = nil
		t.send(api.Msg{Kind: api.Frozen, Move: b.move})
	}
	return api.OK
}

// touched tells whether a transaction that is held or waits touches a range.
func (m *Machine) touched(in api.Range) bool {
	held := slices.ContainsFunc(m.state.Held, func(h api.Hold) bool { return touches(h.Ops, in) })
	return held || slices.ContainsFunc(m.waiters, func(w waiter) bool { return touches(w.ops, in) })
}

// chunk are the operations of the next load.
func (m *Machine) chunk(b *outbox) ([]api.Op, api.Errno) {
	var l []api.Op
	if b.n == 0 {
		l = append(l, api.Op{Kind: api.Clear, Lo: b.in.Lo, Hi: b.in.Hi})
	}
	if !b.all {
		room := api.MaxChunk - len(l)
		pairs, e := m.store.Scan(api.Range{Lo: b.where, Hi: b.in.Hi}, room)
		if e != api.OK {
			return nil, e
		}
		for _, p := range pairs {
			l = append(l, api.Op{Kind: api.Put, Key: p.Key, Value: p.Value})
		}
		b.passed(pairs, room)
	}
	if b.all {
		n := min(api.MaxChunk-len(l), len(b.row))
		l = append(l, b.row[:n]...)
		b.row = slices.Delete(b.row, 0, n)
	}
	return l, api.OK
}

// passed keeps from where on pairs are still to be shipped.
func (b *outbox) passed(pairs []api.Pair, room int) {
	if len(pairs) < room {
		b.all = true
		return
	}
	p, e := span.Point(pairs[len(pairs)-1].Key)
	b.where = p.Hi
	b.all = e != api.OK || p.Hi == "" || b.in.Hi != "" && p.Hi >= b.in.Hi
}

// within tells whether a range has all that operations touch.
func within(l []api.Op, in api.Range) bool {
	return !slices.ContainsFunc(l, func(o api.Op) bool {
		s, e := op.Span(o)
		return e != api.OK || !span.Covers(in, s)
	})
}

// meetsOwn tells whether a range of the shard's has something in common with another one.
func (m *Machine) meetsOwn(in api.Range) bool {
	return slices.ContainsFunc(ranges(m.state.Owners, m.state.Id, true), func(r api.Range) bool {
		_, meet := span.Meet(r, in)
		return meet
	})
}

// load is what a Load does.
func (t *turn) load(x api.Msg) api.Errno {
	s := &t.state
	if x.Move == 0 || x.Move != s.Move || t.meetsOwn(x.Range) || !within(x.Ops, x.Range) {
		return api.OK
	}
	if x.Move != s.In.Move || x.Attempt > s.In.Attempt {
		if x.N != 0 {
			return api.OK
		}
		s.In = api.Inbox{Move: x.Move, Attempt: x.Attempt, Range: x.Range}
	}
	if x.Attempt < s.In.Attempt || x.N > s.In.Next || x.Range != s.In.Range {
		return api.OK
	}
	if x.N == s.In.Next {
		t.write(x.Ops...)
		s.In.Next++
	}
	t.send(api.Msg{Kind: api.Loaded, To: x.From, Move: x.Move, Attempt: x.Attempt, N: x.N})
	return api.OK
}

// loaded is what a Loaded does.
func (t *turn) loaded(x api.Msg) api.Errno {
	b := t.out
	if b == nil || b.move != x.Move || b.peer != x.From || t.state.Boot != x.Attempt || !b.under || b.n != x.N {
		return api.OK
	}
	b.under, b.load = false, api.Msg{}
	b.n++
	return t.ship()
}
