package part

import (
	"cmp"
	"slices"

	"sumpter/api"
	"sumpter/locks"
	"sumpter/op"
	"sumpter/owner"
	"sumpter/span"
)

// allPairs is as many pairs as there may be: what is written may take away any of them.
const allPairs = 1<<31 - 1

// fate is that a transaction has died, or that something was granted to it.
type fate struct {
	txn  uint64
	dead bool
}

// findHold is where a transaction that is held stands, or would stand, and whether it does.
func (m *Machine) findHold(txn uint64) (int, bool) {
	return slices.BinarySearchFunc(m.state.Held, txn, func(h api.Hold, txn uint64) int { return cmp.Compare(h.Txn, txn) })
}

// findWaiter is where a transaction that waits stands, or would stand, and whether it does.
func (m *Machine) findWaiter(txn uint64) (int, bool) {
	return slices.BinarySearchFunc(m.waiters, txn, func(w waiter, txn uint64) int { return cmp.Compare(w.txn, txn) })
}

// dropWaiter lets a transaction wait no more.
func (m *Machine) dropWaiter(txn uint64) {
	if i, ok := m.findWaiter(txn); ok {
		m.waiters = slices.Delete(m.waiters, i, i+1)
	}
}

// finish remembers that a transaction is finished, as long as its Work may still come.
func (m *Machine) finish(txn uint64) {
	if txn < m.state.Low {
		return
	}
	if i, ok := slices.BinarySearch(m.state.Finished, txn); !ok {
		m.state.Finished = slices.Insert(m.state.Finished, i, txn)
	}
}

// raiseLow forgets what was finished below a number.
func (m *Machine) raiseLow(low uint64) {
	m.state.Low = max(m.state.Low, low)
	i, _ := slices.BinarySearch(m.state.Finished, m.state.Low)
	m.state.Finished = slices.Delete(m.state.Finished, 0, i)
}

// touches tells whether operations touch a range.
func touches(l []api.Op, in api.Range) bool {
	return slices.ContainsFunc(l, func(o api.Op) bool {
		s, e := op.Span(o)
		_, meet := span.Meet(s, in)
		return e == api.OK && meet
	})
}

// closed tells whether a range is closed to operations.
func (m *Machine) closed(l []api.Op) bool {
	if m.state.Frozen != 0 && touches(l, m.state.Cold) {
		return true
	}
	return m.out != nil && m.out.closes && touches(l, m.out.in)
}

// owns tells whether the shard has all that operations touch.
func (m *Machine) owns(l []api.Op) bool {
	return !slices.ContainsFunc(l, func(o api.Op) bool {
		s, e := op.Span(o)
		return e != api.OK || !owner.Owns(m.state.Owners, m.state.Id, s)
	})
}

// refuses tells whether the shard can't take a transaction.
func (m *Machine) refuses(x api.Msg) bool {
	busy := len(m.state.Held) + len(m.waiters)
	full := busy >= api.MaxHeld || busy+len(m.state.Finished) >= api.MaxFinished
	return full || x.Epoch != m.state.Epoch || !m.owns(x.Ops) || m.closed(x.Ops)
}

// work is what a Work does.
func (t *turn) work(x api.Msg) api.Errno {
	t.raiseLow(x.Low)
	if _, done := slices.BinarySearch(t.state.Finished, x.Txn); done || x.Txn < t.state.Low {
		return api.OK
	}
	if i, ok := t.findHold(x.Txn); ok {
		return t.voteYes(t.state.Held[i])
	}
	i, waits := t.findWaiter(x.Txn)
	if waits {
		return api.OK
	}
	if t.refuses(x) {
		t.send(api.Msg{Kind: api.Vote, Txn: x.Txn, Code: api.Refused})
		return api.OK
	}
	l, e := op.Locks(x.Ops)
	if e != api.OK {
		return e
	}
	t.waiters = slices.Insert(t.waiters, i, waiter{txn: x.Txn, ops: slices.Clone(x.Ops), locks: l})
	if e := t.goOn(x.Txn); e != api.OK {
		return e
	}
	return t.lookAfter()
}

// goOn asks for a transaction's next locks, till it is held, waits, or dies.
func (t *turn) goOn(txn uint64) api.Errno {
	i, ok := t.findWaiter(txn)
	if !ok {
		return api.OK
	}
	w := &t.waiters[i]
	for w.granted < len(w.locks) {
		state, granted, dead, e := t.table.Ask(txn, w.locks[w.granted])
		if e != api.OK {
			return e
		}
		t.lineUp(granted, dead)
		switch state {
		case locks.Waits:
			return api.OK
		case locks.Dies:
			t.die(txn)
			t.release(txn)
			return api.OK
		}
		w.granted++
	}
	return t.hold(*w)
}

// lineUp puts transactions into the line.
func (t *turn) lineUp(granted, dead []uint64) {
	for _, txn := range dead {
		t.line = append(t.line, fate{txn, true})
	}
	for _, txn := range granted {
		t.line = append(t.line, fate{txn, false})
	}
}

// lookAfter goes through the line.
func (t *turn) lookAfter() api.Errno {
	for len(t.line) > 0 {
		f := t.line[0]
		t.line = t.line[1:]
		if f.dead {
			t.die(f.txn)
			continue
		}
		if i, ok := t.findWaiter(f.txn); ok {
			t.waiters[i].granted++
		}
		if e := t.goOn(f.txn); e != api.OK {
			return e
		}
	}
	return api.OK
}

// die lets a transaction that has died wait no more.
func (t *turn) die(txn uint64) {
	t.dropWaiter(txn)
	t.send(api.Msg{Kind: api.Vote, Txn: txn, Code: api.Died})
}

// release lets a transaction's locks go.
func (t *turn) release(txn uint64) { t.lineUp(t.table.Release(txn)) }

// hold keeps a transaction that has all its locks.
func (t *turn) hold(w waiter) api.Errno {
	t.dropWaiter(w.txn)
	h := api.Hold{Txn: w.txn, Ops: w.ops}
	i, _ := t.findHold(w.txn)
	t.state.Held = slices.Insert(t.state.Held, i, h)
	return t.voteYes(h)
}

// voteYes says yes to a transaction that is held.
func (t *turn) voteYes(h api.Hold) api.Errno {
	r, e := t.results(h.Ops)
	if e != api.OK {
		return e
	}
	t.send(api.Msg{Kind: api.Vote, Txn: h.Txn, Code: api.Yes, Results: r})
	return api.OK
}

// results are what operations tell, on what the store has and what was written since.
func (t *turn) results(l []api.Op) ([]api.Result, api.Errno) {
	var all []api.Op
	for _, o := range l {
		pairs, e := t.read(o)
		if e != api.OK {
			return nil, e
		}
		for _, p := range pairs {
			all = append(all, api.Op{Kind: api.Put, Key: p.Key, Value: p.Value})
		}
	}
	all = append(append(all, t.deed.Writes...), l...)
	_, told, e := op.Apply(nil, all)
	if e != api.OK {
		return nil, e
	}
	return slices.Clone(told[len(all)-len(l):]), api.OK
}

// read is what the store has of all that an operation may tell.
func (m *Machine) read(o api.Op) ([]api.Pair, api.Errno) {
	switch o.Kind {
	case api.Get:
		value, is, e := m.store.Get(o.Key)
		if e != api.OK || !is {
			return nil, e
		}
		return []api.Pair{{Key: o.Key, Value: value}}, api.OK
	case api.Scan:
		return m.store.Scan(api.Range{Lo: o.Lo, Hi: o.Hi}, allPairs)
	}
	return nil, api.OK
}

// decide is what a Decide does.
func (t *turn) decide(x api.Msg) api.Errno {
	t.send(api.Msg{Kind: api.Ack, Txn: x.Txn})
	i, held := t.findHold(x.Txn)
	_, waits := t.findWaiter(x.Txn)
	if !held && !waits {
		return api.OK
	}
	if held {
		ops := t.state.Held[i].Ops
		t.state.Held = slices.Delete(t.state.Held, i, i+1)
		if x.Flag {
			t.commit(ops)
		}
	}
	t.dropWaiter(x.Txn)
	t.finish(x.Txn)
	t.release(x.Txn)
	return t.lookAfter()
}

// commit writes a transaction's operations that write; a move under way ships them behind.
func (t *turn) commit(l []api.Op) {
	for _, o := range l {
		if !op.Writes(o) {
			continue
		}
		t.write(o)
		if t.out != nil {
			t.out.follow(o)
		}
	}
}
