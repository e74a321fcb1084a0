package coord_test

import (
	"fmt"
	"math/rand"
	"reflect"
	"slices"
	"strings"
	"testing"

	"sumpter/api"
	"sumpter/coord"
	"sumpter/owner"
	"sumpter/record"
)

func get(k string) api.Op              { return api.Op{Kind: api.Get, Key: k} }
func put(k, v string) api.Op           { return api.Op{Kind: api.Put, Key: k, Value: v} }
func scan(lo, hi string, n int) api.Op { return api.Op{Kind: api.Scan, Lo: lo, Hi: hi, Most: n} }

const one = 1 << 32 // the first boot's numbers begin behind it

var two = []api.Owner{{Shard: 1}, {Lo: "m", Shard: 2}}

func first() api.Coord { return api.Coord{Shards: 2, Epoch: 1, Owners: slices.Clone(two)} }

// desk is the coordinator's machine.
type desk struct {
	t *testing.T
	m *coord.Machine
}

func open(t *testing.T, c api.Coord) *desk {
	t.Helper()
	m, e := coord.New(c)
	if m == nil || e != api.OK {
		t.Fatalf("New: %d", e)
	}
	return &desk{t, m}
}

func norm(c api.Coord) api.Coord {
	c.Owners = append([]api.Owner{}, c.Owners...)
	c.Decided = append([]api.Decision{}, c.Decided...)
	c.Last = append([]api.Last{}, c.Last...)
	for i := range c.Last {
		c.Last[i].Results = append([]api.Result{}, c.Last[i].Results...)
		for j := range c.Last[i].Results {
			c.Last[i].Results[j].Pairs = append([]api.Pair{}, c.Last[i].Results[j].Pairs...)
		}
	}
	return c
}

// did looks at what is promised of every deed, and tells in short what was sent.
func (s *desk) did(was api.Coord, d coord.Deed) string {
	s.t.Helper()
	now := s.m.State()
	if lasts := !reflect.DeepEqual(norm(was), norm(now)); lasts != d.Lasts {
		s.t.Fatalf("Lasts: %v", d.Lasts)
	}
	if record.CheckCoord(now) != api.OK {
		s.t.Fatalf("the state may not be: %v", now)
	}
	if now.Epoch < was.Epoch || now.Ver < was.Ver {
		s.t.Fatal("Epoch or Ver falls")
	}
	return says(d.Out)
}

func (s *desk) take(x api.Msg) string {
	s.t.Helper()
	was := s.m.State()
	d, e := s.m.Take(x)
	if e != api.OK {
		s.t.Fatalf("Take of kind %d: %d", x.Kind, e)
	}
	return s.did(was, d)
}

func (s *desk) does(x api.Msg, want string) {
	s.t.Helper()
	if got := s.take(x); got != want {
		s.t.Errorf("kind %d %d: sent %q, want %q", x.Kind, x.Txn, got, want)
	}
}

func (s *desk) ticks(want string) {
	s.t.Helper()
	was := s.m.State()
	if got := s.did(was, s.m.Tick()); got != want {
		s.t.Errorf("Tick: sent %q, want %q", got, want)
	}
}

func (s *desk) splits(key, want string, e api.Errno) {
	s.t.Helper()
	was := s.m.State()
	d, got := s.m.Split(key)
	if said := s.did(was, d); said != want || got != e {
		s.t.Errorf("Split(%q): %q %d, want %q %d", key, said, got, want, e)
	}
}

func (s *desk) moves(key string, to int, want string, e api.Errno) {
	s.t.Helper()
	was := s.m.State()
	d, got := s.m.Move(key, to)
	if said := s.did(was, d); said != want || got != e {
		s.t.Errorf("Move(%q, %d): %q %d, want %q %d", key, to, said, got, want, e)
	}
}

// num is a number less that of its boot.
func num(n uint64) string {
	if n < one {
		return fmt.Sprint(n)
	}
	return fmt.Sprintf("%d.%d", n>>32, n&(one-1))
}

func says(l []api.Msg) string {
	var out []string
	for _, x := range l {
		s := fmt.Sprintf("%d>%d ", x.From, x.To)
		switch x.Kind {
		case api.Answer:
			s += fmt.Sprintf("answer %d/%d %s", x.Req, x.Boot, map[int]string{api.Committed: "committed", api.Aborted: "aborted"}[x.Code])
			for _, r := range x.Results {
				switch {
				case r.Found:
					s += " =" + r.Value
				case len(r.Pairs) > 0:
					s += " ["
					for _, p := range r.Pairs {
						s += p.Key + "=" + p.Value + ";"
					}
					s += "]"
				default:
					s += " -"
				}
			}
		case api.Work:
			s += fmt.Sprintf("work %s low %s epoch %d", num(x.Txn), num(x.Low), x.Epoch)
			for _, o := range x.Ops {
				s += fmt.Sprintf(" %d:%s%s-%s", o.Kind, o.Key, o.Lo, o.Hi)
			}
		case api.Decide:
			s += fmt.Sprintf("decide %s %v", num(x.Txn), x.Flag)
		case api.Map:
			s += fmt.Sprintf("map %s/%d/%s", num(x.Ver), x.Epoch, num(x.Move))
			for _, o := range x.Owners {
				s += fmt.Sprintf(" %s:%d", o.Lo, o.Shard)
			}
		case api.Copy:
			s += fmt.Sprintf("copy %s/%s %s-%s to %d %v", num(x.Ver), num(x.Move), x.Range.Lo, x.Range.Hi, x.Peer, x.Flag)
		default:
			s += fmt.Sprint("kind ", x.Kind)
		}
		out = append(out, s)
	}
	return strings.Join(out, ", ")
}

func request(client int, req, boot uint64, l ...api.Op) api.Msg {
	return api.Msg{Kind: api.Request, From: 10 + client, Req: req, Boot: boot, Ops: l}
}

func yes(shard int, n uint64, l ...api.Result) api.Msg {
	return api.Msg{Kind: api.Vote, From: shard, Txn: one + n, Code: api.Yes, Results: l}
}

func ack(shard int, n uint64) api.Msg { return api.Msg{Kind: api.Ack, From: shard, Txn: one + n} }

func ask(shard int, n uint64) api.Msg { return api.Msg{Kind: api.Ask, From: shard, Txn: one + n} }

func known(shard int, ver uint64) api.Msg { return api.Msg{Kind: api.MapAck, From: shard, Ver: ver} }

// quiet is a desk whose shards have acknowledged the owners.
func quiet(t *testing.T) *desk {
	t.Helper()
	s := open(t, first())
	s.does(known(1, one), "")
	s.does(known(2, one), "")
	if !s.m.Idle() {
		t.Fatal("it is not idle")
	}
	return s
}

func TestP21_1New(t *testing.T) {
	c := first()
	c.Boot, c.Ver = 4, 77
	c.Decided = []api.Decision{{Txn: 3*one + 5, Client: 1, Boot: 3, Req: 2, Shards: []int{1, 2}}}
	c.Last = []api.Last{{Client: 1, Boot: 3, Req: 2, Results: []api.Result{{Pairs: []api.Pair{{Key: "a"}}}}}}
	s := open(t, c)
	want := c
	want.Boot, want.Ver = 5, 5*one
	if got := s.m.State(); !reflect.DeepEqual(norm(got), norm(want)) {
		t.Errorf("State: %v", got)
	}
	c.Owners[0].Shard, c.Decided[0].Shards[0], c.Last[0].Results[0].Pairs[0].Key = 2, 2, "z"
	st := s.m.State()
	st.Owners[0].Shard, st.Decided[0].Shards[0] = 2, 2
	if got := s.m.State(); got.Owners[0].Shard != 1 || got.Decided[0].Shards[0] != 1 || got.Last[0].Results[0].Pairs[0].Key != "a" {
		t.Error("the state shares memory")
	}
	if len(s.m.Active()) != 0 || s.m.Moving() != 0 || s.m.Idle() {
		t.Error("a new one")
	}
	for i, f := range []func(c *api.Coord){func(c *api.Coord) { c.Shards = 0 }, func(c *api.Coord) { c.Shards = 1 }, func(c *api.Coord) { c.Boot = 1<<31 - 1 }, func(c *api.Coord) { c.Boot = 1 << 31 }, func(c *api.Coord) { c.Owners = nil }, func(c *api.Coord) { c.Last = []api.Last{{}} }} {
		c := first()
		f(&c)
		if m, e := coord.New(c); m != nil || e != api.ErrArg {
			t.Errorf("%d: New: %d", i, e)
		}
	}
	c = first()
	c.Boot = 1<<31 - 2
	if m, e := coord.New(c); e != api.OK || m.State().Ver != (1<<31-1)*one {
		t.Errorf("the last boot: %d", e)
	}
}

func TestP21_2NoMessage(t *testing.T) {
	s := quiet(t)
	for i, x := range []api.Msg{{}, {Kind: 99}, request(1, 1, 1), request(5, 1, 1, get("a")), {Kind: api.Ack, From: 3, Txn: 1}, {Kind: api.Ack, From: 1, To: 2, Txn: 1}, {Kind: api.Work, To: 1, Txn: 1, Ops: []api.Op{get("a")}}, {Kind: api.Loaded, From: 1, To: 2}, {Kind: api.MapAck, From: 4, Ver: 1}, {Kind: api.Ask, From: -1}, {Kind: api.Answer, To: 11, Code: api.Aborted}} {
		if d, e := s.m.Take(x); d.Out != nil || d.Lasts || e != api.ErrMsg {
			t.Errorf("%d: Take: %d", i, e)
		}
	}
}

func TestP21_2Example(t *testing.T) {
	s := quiet(t)
	s.does(request(1, 1, 1, put("a", "1"), put("z", "2")), "0>1 work 1.1 low 1.1 epoch 1 2:a-, 0>2 work 1.1 low 1.1 epoch 1 2:z-")
	if !slices.Equal(s.m.Active(), []uint64{one + 1}) || s.m.Idle() {
		t.Errorf("Active: %v", s.m.Active())
	}
	s.does(request(1, 1, 1, put("a", "1")), "")
	s.does(request(1, 2, 1, put("a", "1")), "")
	s.does(ask(1, 1), "")
	s.does(yes(2, 1, api.Result{}), "")
	s.does(yes(2, 1, api.Result{}, api.Result{}), "") // it has voted
	s.does(yes(1, 1, api.Result{}), "0>11 answer 1/1 committed - -, 0>1 decide 1.1 true, 0>2 decide 1.1 true")
	c := s.m.State()
	if !reflect.DeepEqual(c.Decided, []api.Decision{{Txn: one + 1, Client: 1, Boot: 1, Req: 1, Shards: []int{1, 2}}}) || len(c.Last) != 1 || c.Last[0].Req != 1 || c.Last[0].Boot != 1 || len(c.Last[0].Results) != 2 {
		t.Errorf("the state: %v", c)
	}
	s.does(request(1, 1, 1, put("a", "1")), "0>11 answer 1/1 committed - -")
	s.does(request(1, 0, 1, put("a", "1")), "")
	s.does(request(1, 1, 0, put("a", "1")), "0>11 answer 1/1 aborted")
	s.does(ask(1, 99), "0>1 decide 1.99 false")
	s.does(ask(2, 1), "0>2 decide 1.1 true")
	s.does(yes(1, 1, api.Result{}), "")
	s.does(ack(1, 1), "")
	s.does(ack(1, 1), "")
	s.ticks("0>2 decide 1.1 true")
	s.does(ack(2, 7), "")
	s.does(ack(2, 1), "")
	if !s.m.Idle() {
		t.Error("it is idle")
	}
	s.does(ask(2, 1), "0>2 decide 1.1 false")
}

func TestP21_2Results(t *testing.T) {
	s := quiet(t)
	s.does(request(3, 5, 1, scan("", "", 3), get("z"), scan("a", "b", 1)), "0>1 work 1.1 low 1.1 epoch 1 4:-m 4:a-b, 0>2 work 1.1 low 1.1 epoch 1 4:m- 1:z-")
	pairs := func(l ...string) api.Result {
		var r api.Result
		for _, k := range l {
			r.Pairs = append(r.Pairs, api.Pair{Key: k, Value: "v"})
		}
		return r
	}
	in := pairs("a", "b")
	s.does(yes(1, 1, in, pairs("a")), "")
	in.Pairs[0].Key = "changed"
	s.does(yes(2, 1, pairs("p", "q"), api.Result{Found: true, Value: "9"}), "0>13 answer 5/1 committed [a=v;b=v;p=v;] =9 [a=v;], 0>1 decide 1.1 true, 0>2 decide 1.1 true")
	s.does(request(3, 5, 1, get("a")), "0>13 answer 5/1 committed [a=v;b=v;p=v;] =9 [a=v;]")
	// Behind a fall the client's last one is known still.
	n := open(t, s.m.State())
	n.does(request(3, 5, 1, get("a")), "0>13 answer 5/2 committed [a=v;b=v;p=v;] =9 [a=v;]")
	n.does(request(3, 4, 1, get("a")), "0>13 answer 4/2 aborted")
	n.does(request(2, 5, 1, get("a")), "0>12 answer 5/2 aborted")
	n.does(request(3, 5, 9, get("a")), "0>13 answer 5/2 aborted")
	n.ticks("0>1 decide 1.1 true, 0>2 decide 1.1 true, 0>1 map 2.0/1/0 :1 m:2, 0>2 map 2.0/1/0 :1 m:2")
	n.does(request(3, 5, 2, get("a")), "0>13 answer 5/2 aborted") // these were no answers of this boot; an elder one is decided still
	n.does(ack(1, 1), "")
	n.does(ack(2, 1), "")
	n.does(request(3, 6, 2, get("a")), "0>1 work 2.2 low 2.2 epoch 1 1:a-")
}

func TestP21_2No(t *testing.T) {
	for _, v := range []api.Msg{{Kind: api.Vote, From: 2, Txn: one + 1, Code: api.Died}, {Kind: api.Vote, From: 2, Txn: one + 1, Code: api.Refused, Results: make([]api.Result, 1)}, yes(2, 1), yes(2, 1, api.Result{}, api.Result{})} {
		s := quiet(t)
		s.take(request(1, 1, 1, put("a", "1"), put("z", "2")))
		s.does(yes(1, 1, api.Result{}), "")
		s.does(api.Msg{Kind: api.Vote, From: 1, Txn: one + 1, Code: api.Died}, "") // it has voted Yes
		s.does(v, "0>11 answer 1/1 aborted, 0>1 decide 1.1 false, 0>2 decide 1.1 false")
		if len(s.m.Active()) != 0 || !s.m.Idle() {
			t.Error("it is idle")
		}
		s.does(request(1, 1, 1, put("a", "1")), "0>11 answer 1/1 aborted")
		s.does(yes(2, 1, api.Result{}), "")
		s.does(ask(1, 1), "0>1 decide 1.1 false")
		s.does(request(1, 2, 1, get("a")), "0>1 work 1.2 low 1.2 epoch 1 1:a-")
		s.does(yes(2, 2, api.Result{}), "") // it has no part
		s.does(yes(1, 3, api.Result{}), "")
	}
}

func TestP21_2Many(t *testing.T) {
	s := quiet(t)
	for i := range 8 {
		s.take(request(1, uint64(1+i), 1, get("a")))
		if i == 7 {
			s.take(request(2, 1, 1, get("a")))
			break
		}
		s.take(yes(1, uint64(1+i), api.Result{}))
	}
	// Seven are decided, one is active: the second client's was refused.
	s.does(request(2, 1, 1, get("a")), "0>12 answer 1/1 aborted")
	if n := len(s.m.State().Decided); n != 7 || len(s.m.Active()) != 1 {
		t.Fatalf("%d are decided", n)
	}
	s.take(yes(1, 8, api.Result{}))
	s.does(request(2, 2, 1, get("a")), "0>12 answer 2/1 aborted")
	s.does(ack(1, 1), "")
	s.does(request(2, 3, 1, get("z")), "0>2 work 1.11 low 1.2 epoch 1 1:z-")
	s.does(request(3, 1, 1, get("z")), "0>13 answer 1/1 aborted")
}

func TestP21_2FarApart(t *testing.T) {
	s := quiet(t)
	s.take(request(1, 1, 1, get("a")))
	s.take(yes(1, 1, api.Result{}))
	for i := range 63 { // those that are aborted are counted
		s.take(request(2, uint64(1+i), 1, get("a")))
		s.take(api.Msg{Kind: api.Vote, From: 1, Txn: one + 2 + uint64(i), Code: api.Died})
	}
	s.does(request(2, 64, 1, get("a")), "0>12 answer 64/1 aborted")
	s.does(ack(1, 1), "")
	s.does(request(2, 65, 1, get("a")), "0>1 work 1.66 low 1.66 epoch 1 1:a-")
}

func TestP21_2NotTooFar(t *testing.T) {
	s := quiet(t)
	s.take(request(1, 1, 1, get("a")))
	for i := range 62 {
		s.take(request(2, uint64(1+i), 1, get("a")))
		s.take(api.Msg{Kind: api.Vote, From: 1, Txn: one + 2 + uint64(i), Code: api.Died})
	}
	s.does(request(2, 64, 1, get("a")), "0>1 work 1.64 low 1.1 epoch 1 1:a-")
	s.does(request(3, 1, 1, get("a")), "0>13 answer 1/1 aborted")
}

func TestP21_3Tick(t *testing.T) {
	s := open(t, first())
	maps := "0>1 map 1.0/1/0 :1 m:2, 0>2 map 1.0/1/0 :1 m:2"
	s.ticks(maps)
	s.does(known(2, one), "")
	s.does(known(2, 5), "")
	s.ticks("0>1 map 1.0/1/0 :1 m:2")
	s.does(known(1, 2*one), "")
	s.ticks("")
	s.take(request(1, 1, 1, put("a", "1"), put("z", "2")))
	s.take(yes(1, 1, api.Result{}))
	s.take(request(2, 7, 1, get("a")))
	again := "0>2 work 1.1 low 1.1 epoch 1 2:z-, 0>1 work 1.2 low 1.1 epoch 1 1:a-"
	s.ticks(again)
	s.splits("c", "0>1 map 1.1/2/0 :1 c:1 m:2, 0>2 map 1.1/2/0 :1 c:1 m:2", api.OK)
	s.does(known(1, one+1), "") // 1 knew a greater one
	s.does(known(2, one+1), "")
	for range 9 {
		s.ticks(again) // with the epoch of their beginning
	}
	s.take(request(3, 7, 1, get("z")))
	s.ticks("0>11 answer 1/1 aborted, 0>1 decide 1.1 false, 0>2 decide 1.1 false, 0>12 answer 7/1 aborted, 0>1 decide 1.2 false, 0>2 work 1.3 low 1.3 epoch 2 1:z-")
}

func TestP21_3Move(t *testing.T) {
	s := quiet(t)
	s.splits("g", "0>1 map 1.1/2/0 :1 g:1 m:2, 0>2 map 1.1/2/0 :1 g:1 m:2", api.OK)
	s.moves("h", 2, "0>1 map 1.2/2/1.2 :1 g:1 m:2, 0>2 map 1.2/2/1.2 :1 g:1 m:2", api.OK)
	if s.m.Moving() != one+2 || s.m.Idle() {
		t.Errorf("Moving: %d", s.m.Moving())
	}
	s.moves("", 2, "", api.ErrState)
	s.splits("", "", api.ErrState)
	s.does(known(2, one+2), "")
	s.ticks("0>1 map 1.2/2/1.2 :1 g:1 m:2")
	s.does(known(1, one+2), "")
	s.ticks("0>1 copy 1.2/1.2 g-m to 2 false")
	copied := api.Msg{Kind: api.Copied, From: 1, Move: one + 2}
	frozen := api.Msg{Kind: api.Frozen, From: 1, Move: one + 2}
	for _, x := range []api.Msg{copied, frozen} {
		y := x
		y.From = 2
		s.does(y, "")
		x.Move--
		s.does(x, "")
	}
	s.ticks("0>1 copy 1.2/1.2 g-m to 2 false")
	s.does(copied, "")
	s.ticks("0>1 copy 1.2/1.2 g-m to 2 true")
	s.does(frozen, "0>1 map 1.3/3/0 :1 g:2 m:2, 0>2 map 1.3/3/0 :1 g:2 m:2")
	s.does(frozen, "")
	s.does(copied, "")
	if s.m.Moving() != 0 || s.m.Idle() {
		t.Error("there is a move")
	}
	s.does(known(1, one+3), "")
	s.does(known(2, one+3), "")
	if !s.m.Idle() {
		t.Error("it is idle")
	}
}

func TestP21_3MoveGivenUp(t *testing.T) {
	s := quiet(t)
	s.moves("z", 1, "0>1 map 1.1/1/1.1 :1 m:2, 0>2 map 1.1/1/1.1 :1 m:2", api.OK)
	s.take(known(1, one+1))
	s.take(known(2, one+1))
	for range 60 {
		s.ticks("0>2 copy 1.1/1.1 m- to 1 false")
	}
	s.ticks("0>1 map 1.2/1/0 :1 m:2, 0>2 map 1.2/1/0 :1 m:2")
	if s.m.Moving() != 0 {
		t.Error("there is a move")
	}
	s.does(api.Msg{Kind: api.Frozen, From: 2, Move: one + 1}, "")
	// A fall ends it, too.
	s.moves("z", 1, "0>1 map 1.3/1/1.3 :1 m:2, 0>2 map 1.3/1/1.3 :1 m:2", api.OK)
	n := open(t, s.m.State())
	if n.m.Moving() != 0 || n.m.State().Ver != 2*one {
		t.Error("there is a move")
	}
}

func TestP21_4Split(t *testing.T) {
	s := quiet(t)
	s.splits("", "", api.ErrKey)
	s.splits("m", "", api.ErrTwice)
	for _, k := range []string{"a", "b", "c", "d"} {
		if _, e := s.m.Split(k); e != api.OK {
			t.Errorf("Split(%q): %d", k, e)
		}
	}
	s.splits("e", "", api.ErrMany)
	for _, x := range []struct {
		key string
		to  int
		e   api.Errno
	}{{"", 0, api.ErrKey}, {strings.Repeat("k", 13), 2, api.ErrKey}, {"x", 0, api.ErrArg}, {"x", 2, api.ErrArg}, {"x", 3, api.ErrArg}, {"x", -1, api.ErrArg}, {"d", 1, api.ErrArg}} {
		s.moves(x.key, x.to, "", x.e)
	}
	if c := s.m.State(); c.Epoch != 5 || c.Ver != one+4 || len(c.Owners) != 6 {
		t.Errorf("the state: %v", c)
	}
	s.moves("d", 2, "0>1 map 1.5/5/1.5 :1 a:1 b:1 c:1 d:1 m:2, 0>2 map 1.5/5/1.5 :1 a:1 b:1 c:1 d:1 m:2", api.OK)
}

func TestP21_4Memory(t *testing.T) {
	s := quiet(t)
	d, _ := s.m.Split("g")
	d.Out[0].Owners[0].Shard = 4
	if d.Out[1].Owners[0].Shard != 1 || s.m.State().Owners[0].Shard != 1 {
		t.Error("messages share memory")
	}
	d, _ = s.m.Take(request(1, 1, 1, put("a", "1"), put("b", "1")))
	d.Out[0].Ops[0].Key = "changed"
	if d := s.m.Tick(); d.Out[0].Ops[0].Key != "a" {
		t.Error("messages share memory")
	}
}

func TestP21_4AnswersMemory(t *testing.T) {
	s := quiet(t)
	s.take(request(1, 1, 1, scan("", "m", 2)))
	d, _ := s.m.Take(yes(1, 1, api.Result{Pairs: []api.Pair{{Key: "a", Value: "1"}}}))
	d.Out[0].Results[0].Pairs[0].Key = "changed"
	s.m.State().Last[0].Results[0].Pairs[0].Key = "changed"
	d, _ = s.m.Take(request(1, 1, 1, get("a")))
	d.Out[0].Results[0].Pairs[0].Value = "changed"
	s.does(request(1, 1, 1, get("a")), "0>11 answer 1/1 committed [a=1;]")
	if s.m.State().Last[0].Results[0].Pairs[0] != (api.Pair{Key: "a", Value: "1"}) {
		t.Error("the state shares memory")
	}
}

func TestP21_1Idle(t *testing.T) {
	for shard := 1; shard <= 2; shard++ {
		s := open(t, first())
		s.does(known(shard, one), "")
		if s.m.Idle() {
			t.Errorf("%d alone has acknowledged", shard)
		}
		s.does(known(3-shard, one-1), "")
		if s.m.Idle() {
			t.Error("an elder one was acknowledged")
		}
		s.does(known(3-shard, one+1), "")
		if !s.m.Idle() {
			t.Error("it is idle")
		}
	}
}

func TestP21_5Follows(t *testing.T) {
	r := rand.New(rand.NewSource(1))
	for range 200 {
		s := quiet(t)
		decided := map[uint64]bool{}
		aborted := map[uint64]bool{}
		req := map[int]uint64{}
		for range 200 {
			was, active := s.m.State(), s.m.Active()
			var d coord.Deed
			n := s.m.State().Boot<<32 + uint64(r.Intn(20))
			switch r.Intn(9) {
			case 0, 1:
				c := 1 + r.Intn(4)
				if r.Intn(2) == 0 {
					req[c]++
				}
				d, _ = s.m.Take(request(c, req[c], s.m.State().Boot-uint64(r.Intn(8)/7), put("a", "1"), put("z", "2")))
			case 2, 3:
				for _, a := range s.m.Active() {
					n = a
				}
				d, _ = s.m.Take(api.Msg{Kind: api.Vote, From: 1 + r.Intn(2), Txn: n, Code: api.Yes, Results: make([]api.Result, 1+r.Intn(20)/19)})
			case 4:
				d, _ = s.m.Take(api.Msg{Kind: api.Ack, From: 1 + r.Intn(2), Txn: n})
			case 5:
				d, _ = s.m.Take(api.Msg{Kind: api.Ask, From: 1 + r.Intn(2), Txn: n})
			case 6:
				d = s.m.Tick()
			case 7:
				if r.Intn(2) == 0 {
					d, _ = s.m.Split(string(rune('a' + r.Intn(26))))
				} else {
					d, _ = s.m.Move(string(rune('a'+r.Intn(26))), 1+r.Intn(2))
				}
			case 8:
				if r.Intn(10) == 0 {
					s = open(t, s.m.State())
					for _, a := range active {
						aborted[a] = true
					}
					continue
				}
			}
			s.did(was, d)
			now := s.m.State()
			if owner.Check(now.Owners) != api.OK {
				t.Fatal("no owners")
			}
			there := func(n uint64) bool {
				return slices.ContainsFunc(now.Decided, func(d api.Decision) bool { return d.Txn == n })
			}
			for _, a := range active {
				aborted[a] = aborted[a] || !there(a) && !slices.Contains(s.m.Active(), a)
			}
			for _, x := range now.Decided {
				decided[x.Txn] = true
				if aborted[x.Txn] {
					t.Fatal("what was aborted is decided")
				}
			}
			for _, x := range d.Out {
				switch x.Kind {
				case api.Decide:
					if x.Flag != there(x.Txn) {
						t.Fatalf("decide %d %v", x.Txn, x.Flag)
					}
				case api.Answer:
					if x.Code == api.Committed && !slices.ContainsFunc(now.Last, func(l api.Last) bool { return l.Client == x.To-10 && l.Req == x.Req }) {
						t.Fatal("committed, and not decided")
					}
				}
			}
		}
	}
}
