package coord

import (
	"cmp"
	"slices"

	"sumpter/api"
	"sumpter/owner"
)

// mostApart is how far apart the numbers of transactions that are not at their end may be.
const mostApart = 64

// txn is a transaction that is active.
type txn struct {
	number  uint64
	client  int
	req     uint64
	epoch   uint64 // at its beginning
	ops     []api.Op
	parts   []owner.Part
	yes     []bool // of each part
	results [][]api.Result
	age     int
}

// find is where an active transaction stands.
func (m *Machine) find(number uint64) (int, bool) {
	return slices.BinarySearchFunc(m.active, number, func(x txn, n uint64) int { return cmp.Compare(x.number, n) })
}

// findDecided is where a decision stands, or would stand, and whether it does.
func (m *Machine) findDecided(number uint64) (int, bool) {
	return slices.BinarySearchFunc(m.state.Decided, number, func(d api.Decision, n uint64) int { return cmp.Compare(d.Txn, n) })
}

// next is the number that the next transaction gets.
func (m *Machine) next() uint64 { return m.state.Boot<<bootShift + m.begun + 1 }

// low is the least number of those that are active or decided.
func (m *Machine) low() uint64 {
	low := m.next()
	if len(m.active) > 0 {
		low = min(low, m.active[0].number)
	}
	if len(m.state.Decided) > 0 {
		low = min(low, m.state.Decided[0].Txn)
	}
	return low
}

// say sends an Answer.
func (t *turn) say(client int, req uint64, code int, results []api.Result) {
	t.send(api.Msg{Kind: api.Answer, To: clients + client, Req: req, Boot: t.state.Boot, Code: code, Results: results})
}

// answer answers a client, and keeps what it was answered.
func (t *turn) answer(client int, req uint64, code int, results []api.Result) {
	t.answers[client] = answer{true, req, code, cloneResults(results)}
	t.say(client, req, code, results)
}

// decide tells shards how a transaction was decided.
func (t *turn) decide(number uint64, shards []int, flag bool) {
	for _, shard := range shards {
		t.send(api.Msg{Kind: api.Decide, To: shard, Txn: number, Flag: flag})
	}
}

// shards are the shards of a transaction's parts.
func (x *txn) shards() []int {
	var out []int
	for _, p := range x.parts {
		out = append(out, p.Shard)
	}
	return out
}

// request is what a Request does.
func (t *turn) request(x api.Msg) {
	client := x.From - clients
	if x.Boot != t.state.Boot {
		t.remember(client, x)
		return
	}
	if slices.ContainsFunc(t.active, func(a txn) bool { return a.client == client }) {
		return
	}
	if a := t.answers[client]; a.given && a.req >= x.Req {
		if a.req == x.Req {
			t.say(client, a.req, a.code, a.results)
		}
		return
	}
	t.begin(client, x)
}

// remember answers a request that was asked of an elder boot.
func (t *turn) remember(client int, x api.Msg) {
	for _, l := range t.state.Last {
		if l.Client == client && l.Boot == x.Boot && l.Req == x.Req {
			t.say(client, x.Req, api.Committed, l.Results)
			return
		}
	}
	t.say(client, x.Req, api.Aborted, nil)
}

// begin begins a transaction, or aborts it at once.
func (t *turn) begin(client int, x api.Msg) {
	number, low := t.next(), t.low()
	t.begun++
	parts, e := owner.Cut(t.state.Owners, x.Ops)
	busy := len(t.active) >= api.MaxActive || len(t.active)+len(t.state.Decided) >= api.MaxDecided || number-low >= mostApart
	if busy || e != api.OK {
		t.answer(client, x.Req, api.Aborted, nil)
		return
	}
	n := len(parts)
	a := txn{number: number, client: client, req: x.Req, epoch: t.state.Epoch, ops: slices.Clone(x.Ops), parts: parts, yes: make([]bool, n), results: make([][]api.Result, n)}
	t.active = append(t.active, a)
	t.askVotes(&a)
}

// askVotes sends their Work to the shards that have not voted Yes.
func (t *turn) askVotes(a *txn) {
	for i, p := range a.parts {
		if !a.yes[i] {
			t.send(api.Msg{Kind: api.Work, To: p.Shard, Txn: a.number, Low: t.low(), Epoch: a.epoch, Ops: p.Ops})
		}
	}
}

// vote is what a Vote does.
func (t *turn) vote(x api.Msg) {
	at, ok := t.find(x.Txn)
	if !ok {
		return
	}
	a := &t.active[at]
	i := slices.IndexFunc(a.parts, func(p owner.Part) bool { return p.Shard == x.From })
	if i < 0 || a.yes[i] {
		return
	}
	if x.Code != api.Yes || len(x.Results) != len(a.parts[i].Ops) {
		t.abort(at)
		return
	}
	a.yes[i], a.results[i] = true, cloneResults(x.Results)
	if !slices.Contains(a.yes, false) {
		t.commit(at)
	}
}

// commit commits an active transaction: with the state that has the decision it is committed.
func (t *turn) commit(at int) {
	a := t.active[at]
	results, e := owner.Gather(a.ops, a.parts, a.results)
	if e != api.OK {
		t.abort(at)
		return
	}
	t.active = slices.Delete(t.active, at, at+1)
	d := api.Decision{Txn: a.number, Client: a.client, Boot: t.state.Boot, Req: a.req, Shards: a.shards()}
	i, _ := t.findDecided(a.number)
	t.state.Decided = slices.Insert(t.state.Decided, i, d)
	t.keepLast(api.Last{Client: a.client, Boot: t.state.Boot, Req: a.req, Results: results})
	t.answer(a.client, a.req, api.Committed, results)
	t.decide(a.number, d.Shards, true)
}

// keepLast keeps a client's last transaction that was committed.
func (t *turn) keepLast(l api.Last) {
	i, ok := slices.BinarySearchFunc(t.state.Last, l.Client, func(x api.Last, c int) int { return cmp.Compare(x.Client, c) })
	if ok {
		t.state.Last[i] = l
		return
	}
	t.state.Last = slices.Insert(t.state.Last, i, l)
}

// abort aborts an active transaction.
func (t *turn) abort(at int) {
	a := t.active[at]
	t.active = slices.Delete(t.active, at, at+1)
	t.answer(a.client, a.req, api.Aborted, nil)
	t.decide(a.number, a.shards(), false)
}

// grow lets an active transaction grow older: it is aborted, or its Work is sent again.
func (t *turn) grow(number uint64) {
	at, ok := t.find(number)
	if !ok {
		return
	}
	a := &t.active[at]
	a.age++
	if a.age > api.Patience {
		t.abort(at)
		return
	}
	t.askVotes(a)
}

// ack is what an Ack does.
func (t *turn) ack(x api.Msg) {
	at, ok := t.findDecided(x.Txn)
	if !ok {
		return
	}
	d := &t.state.Decided[at]
	d.Shards = slices.DeleteFunc(d.Shards, func(shard int) bool { return shard == x.From })
	if len(d.Shards) == 0 {
		t.state.Decided = slices.Delete(t.state.Decided, at, at+1)
	}
}

// ask is what an Ask does.
func (t *turn) ask(x api.Msg) {
	_, decided := t.findDecided(x.Txn)
	_, active := t.find(x.Txn)
	if decided || !active {
		t.decide(x.Txn, []int{x.From}, decided)
	}
}
