package part_test

import (
	"fmt"
	"math/rand"
	"reflect"
	"slices"
	"strings"
	"testing"

	"sumpter/api"
	"sumpter/op"
	"sumpter/part"
	"sumpter/record"
	"sumpter/span"
)

func get(k string) api.Op              { return api.Op{Kind: api.Get, Key: k} }
func put(k, v string) api.Op           { return api.Op{Kind: api.Put, Key: k, Value: v} }
func del(k string) api.Op              { return api.Op{Kind: api.Del, Key: k} }
func scan(lo, hi string, n int) api.Op { return api.Op{Kind: api.Scan, Lo: lo, Hi: hi, Most: n} }
func wipe(lo, hi string) api.Op        { return api.Op{Kind: api.Clear, Lo: lo, Hi: hi} }

// store keeps pairs; it may fail.
type store struct {
	m    []api.Pair
	fail api.Errno
}

func (s *store) Get(key string) (string, bool, api.Errno) {
	_, r, _ := op.Apply(s.m, []api.Op{get(key)})
	if s.fail != api.OK {
		return "", false, s.fail
	}
	return r[0].Value, r[0].Found, api.OK
}

func (s *store) Scan(in api.Range, most int) ([]api.Pair, api.Errno) {
	if s.fail != api.OK {
		return nil, s.fail
	}
	var l []api.Pair
	for _, p := range s.m {
		if span.Has(in, p.Key) && (most < 0 || len(l) < most) {
			l = append(l, p)
		}
	}
	return l, api.OK
}

// shop is a shard's machine, and its store.
type shop struct {
	t  *testing.T
	m  *part.Machine
	st *store
}

var two = []api.Owner{{Shard: 1}, {Lo: "m", Shard: 2}}

func first() api.Shard { return api.Shard{Id: 1, Epoch: 1, Ver: 7, Owners: slices.Clone(two)} }

func open(t *testing.T, s api.Shard, pairs ...string) *shop {
	t.Helper()
	st := &store{}
	for _, p := range pairs {
		k, v, _ := strings.Cut(p, "=")
		st.m, _, _ = op.Apply(st.m, []api.Op{put(k, v)})
	}
	m, e := part.New(s, st)
	if m == nil || e != api.OK {
		t.Fatalf("New: %d", e)
	}
	return &shop{t, m, st}
}

// take takes a message, looks at what is promised of every deed, and does it.
func (s *shop) take(x api.Msg) part.Deed {
	s.t.Helper()
	was := s.m.State()
	if x.To == 0 {
		x.To = was.Id
	}
	d, e := s.m.Take(x)
	if e != api.OK {
		s.t.Fatalf("Take of kind %d: %d", x.Kind, e)
	}
	now := s.m.State()
	if lasts := len(d.Writes) > 0 || !reflect.DeepEqual(norm(was), norm(now)); lasts != d.Lasts {
		s.t.Fatalf("Lasts: %v", d.Lasts)
	}
	if record.CheckShard(now) != api.OK {
		s.t.Fatalf("the state may not be: %v", now)
	}
	s.st.m, _, _ = op.Apply(s.st.m, d.Writes)
	return d
}

func norm(s api.Shard) api.Shard {
	s.Owners = append([]api.Owner{}, s.Owners...)
	s.Held = append([]api.Hold{}, s.Held...)
	s.Finished = append([]uint64{}, s.Finished...)
	return s
}

// says is what a list of messages says, in short.
func says(l []api.Msg) string {
	var out []string
	for _, x := range l {
		s := fmt.Sprintf("%d>%d ", x.From, x.To)
		switch x.Kind {
		case api.Vote:
			s += fmt.Sprintf("vote %d %s", x.Txn, map[int]string{api.Yes: "yes", api.Refused: "refused", api.Died: "died"}[x.Code])
			for _, r := range x.Results {
				switch {
				case r.Found:
					s += " =" + r.Value
				case len(r.Pairs) > 0:
					s += " ["
					for _, p := range r.Pairs {
						s += p.Key + "=" + p.Value + ";"
					}
					s += "]"
				default:
					s += " -"
				}
			}
		case api.Ack:
			s += fmt.Sprint("ack ", x.Txn)
		case api.Ask:
			s += fmt.Sprint("ask ", x.Txn)
		case api.MapAck:
			s += fmt.Sprint("mapack ", x.Ver)
		case api.Copied:
			s += fmt.Sprint("copied ", x.Move)
		case api.Frozen:
			s += fmt.Sprint("frozen ", x.Move)
		case api.Load:
			s += fmt.Sprintf("load %d/%d/%d %s-%s%s", x.Move, x.Attempt, x.N, x.Range.Lo, x.Range.Hi, ops(x.Ops))
		case api.Loaded:
			s += fmt.Sprintf("loaded %d/%d/%d", x.Move, x.Attempt, x.N)
		default:
			s += fmt.Sprint("kind ", x.Kind)
		}
		out = append(out, s)
	}
	return strings.Join(out, ", ")
}

func ops(l []api.Op) string {
	s := ""
	for _, o := range l {
		switch o.Kind {
		case api.Put:
			s += " put:" + o.Key + "=" + o.Value
		case api.Del:
			s += " del:" + o.Key
		case api.Clear:
			s += " clear:" + o.Lo + "-" + o.Hi
		default:
			s += " ?"
		}
	}
	return s
}

// does takes a message, and compares what is sent, and what is written.
func (s *shop) does(x api.Msg, out string, writes ...string) {
	s.t.Helper()
	d := s.take(x)
	if got := says(d.Out); got != out {
		s.t.Errorf("kind %d %d: sent %q, want %q", x.Kind, x.Txn, got, out)
	}
	if got, want := strings.TrimSpace(ops(d.Writes)), strings.Join(writes, " "); got != want {
		s.t.Errorf("kind %d %d: written %q, want %q", x.Kind, x.Txn, got, want)
	}
}

func work(txn uint64, l ...api.Op) api.Msg {
	return api.Msg{Kind: api.Work, Txn: txn, Epoch: 1, Ops: l}
}

func decide(txn uint64, flag bool) api.Msg {
	return api.Msg{Kind: api.Decide, Txn: txn, Flag: flag}
}

func (s *shop) holds(want ...uint64) {
	s.t.Helper()
	var got []uint64
	for _, h := range s.m.State().Held {
		got = append(got, h.Txn)
	}
	if !slices.Equal(got, want) {
		s.t.Errorf("held: %v, want %v", got, want)
	}
}

func (s *shop) finished(want ...uint64) {
	s.t.Helper()
	if got := s.m.State().Finished; !slices.Equal(got, want) {
		s.t.Errorf("finished: %v, want %v", got, want)
	}
}

func (s *shop) waits(want ...uint64) {
	s.t.Helper()
	if got := s.m.Waits(); !slices.Equal(got, want) {
		s.t.Errorf("Waits: %v, want %v", got, want)
	}
}

func TestP20_1New(t *testing.T) {
	s := first()
	s.Held = []api.Hold{{Txn: 3, Ops: []api.Op{put("a", "1"), get("b")}}, {Txn: 5, Ops: []api.Op{get("b"), put("c", "")}}}
	s.Finished = []uint64{7, 8}
	x := open(t, s)
	want := s
	want.Boot = 1
	if got := x.m.State(); !reflect.DeepEqual(norm(got), norm(want)) {
		t.Errorf("State: %v", got)
	}
	x.waits()
	if x.m.Idle() {
		t.Error("Idle")
	}
	s.Held[0].Ops[0].Key, s.Finished[0], s.Owners[1].Shard = "z", 1, 3
	st := x.m.State()
	st.Owners[0].Shard, st.Held[1].Ops[0].Key, st.Finished[1] = 4, "z", 9
	if got := x.m.State(); got.Held[0].Ops[0].Key != "a" || got.Held[1].Ops[0].Key != "b" || got.Owners[0].Shard != 1 || got.Owners[1].Shard != 2 || !slices.Equal(got.Finished, []uint64{7, 8}) {
		t.Error("the state shares memory")
	}
	// The locks of what is held are granted.
	x.does(work(9, get("a")), "1>0 vote 9 died")
	x.does(work(9, put("b", "")), "1>0 vote 9 died")
	x.does(work(9, get("b"), get("d")), "1>0 vote 9 yes - -")
	x.does(work(2, get("a")), "")
	x.waits(2)
	if !open(t, first()).m.Idle() {
		t.Error("a new one is idle")
	}
	for i, f := range []func(s *api.Shard){func(s *api.Shard) { s.Id = 0 }, func(s *api.Shard) { s.Owners = nil }, func(s *api.Shard) { s.Finished = []uint64{2, 1} },
		func(s *api.Shard) {
			s.Held = []api.Hold{{Txn: 3, Ops: []api.Op{put("a", "1")}}, {Txn: 5, Ops: []api.Op{get("a")}}}
		},
		func(s *api.Shard) {
			s.Held = []api.Hold{{Txn: 3, Ops: []api.Op{scan("a", "c", 1)}}, {Txn: 5, Ops: []api.Op{get("x"), wipe("b", "d")}}}
		}} {
		s := first()
		f(&s)
		if m, e := part.New(s, &store{}); m != nil || e != api.ErrArg {
			t.Errorf("%d: New: %d", i, e)
		}
	}
	if m, e := part.New(first(), nil); m != nil || e != api.ErrArg {
		t.Errorf("New without a store: %d", e)
	}
	for i, f := range []func(s *api.Shard){func(s *api.Shard) { s.Frozen = 3 }, func(s *api.Shard) { s.In.Move = 3 }} {
		s := first()
		f(&s)
		if open(t, s).m.Idle() {
			t.Errorf("%d: Idle", i)
		}
	}
}

func TestP20_2NoMessage(t *testing.T) {
	x := open(t, first())
	x.take(work(5, put("a", "1")))
	was := x.m.State()
	for i, y := range []api.Msg{{}, {Kind: 99, To: 1}, work(6, get("b")), {Kind: api.Work, To: 2, Txn: 6, Epoch: 1, Ops: []api.Op{get("b")}}, {Kind: api.Work, To: 1, Txn: 6, Epoch: 1}, {Kind: api.Ack, From: 1, Txn: 5}, {Kind: api.Vote, From: 1, Txn: 5, Code: api.Yes}, {Kind: api.Request, From: 11, Ops: []api.Op{get("a")}}, {Kind: api.Decide, From: 2, To: 1, Txn: 5}, {Kind: api.Copied, From: 1, Move: 1}, {Kind: api.Load, From: 1, To: 1}, {Kind: api.Answer, To: 11, Code: api.Aborted}} {
		if d, e := x.m.Take(y); d.Out != nil || d.Writes != nil || d.Lasts || e != api.ErrMsg {
			t.Errorf("%d: Take: %d", i, e)
		}
	}
	if !reflect.DeepEqual(norm(was), norm(x.m.State())) {
		t.Error("what is no message does something")
	}
}

func TestP20_2Example(t *testing.T) {
	x := open(t, first())
	d := x.take(work(5, put("a", "x")))
	if says(d.Out) != "1>0 vote 5 yes -" || !d.Lasts || len(d.Writes) != 0 {
		t.Errorf("Work: %v", d)
	}
	x.holds(5)
	x.does(work(6, get("a")), "1>0 vote 6 died")
	x.does(work(4, get("a")), "")
	x.waits(4)
	x.does(decide(5, true), "1>0 ack 5, 1>0 vote 4 yes =x", "put:a=x")
	x.holds(4)
	x.finished(5)
	x.does(work(7, put("z", "")), "1>0 vote 7 refused")
	x.does(decide(4, true), "1>0 ack 4")
	x.finished(4, 5)
	if !x.m.Idle() {
		t.Error("it is idle")
	}
}

func TestP20_2Results(t *testing.T) {
	x := open(t, first(), "a=1", "b=2", "c=3", "d=4", "e=5", "l=6")
	x.does(work(5, get("b"), scan("", "m", 2), wipe("a", "c"), get("b"), scan("", "m", 4), put("a", "new"), scan("a", "c", 4), del("c"), get("c"), get("f")), "1>0 vote 5 yes =2 [a=1;b=2;] - - [c=3;d=4;e=5;l=6;] - [a=new;] - - -")
	x.does(work(5, get("z")), "1>0 vote 5 yes =2 [a=1;b=2;] - - [c=3;d=4;e=5;l=6;] - [a=new;] - - -") // held: once more
	x.does(work(4, get("a"), get("c")), "")
	x.does(work(3, scan("", "f", 3)), "")
	x.does(decide(5, true), "1>0 ack 5, 1>0 vote 3 yes [a=new;d=4;e=5;], 1>0 vote 4 yes =new -", "clear:a-c", "put:a=new", "del:c")
	x.does(decide(3, false), "1>0 ack 3")
	x.does(decide(4, true), "1>0 ack 4")
}

func TestP20_2Low(t *testing.T) {
	s := first()
	s.Finished = []uint64{3, 5, 8}
	s.Low = 2
	x := open(t, s)
	low := func(txn, low uint64) api.Msg {
		m := work(txn, put(fmt.Sprint("k", txn), ""))
		m.Low = low
		return m
	}
	x.does(low(5, 0), "")
	x.does(low(1, 0), "")
	if x.m.State().Low != 2 {
		t.Error("Low falls")
	}
	x.does(low(1, 3), "") // nothing but Low is another one
	x.does(low(4, 5), "") // below Low, and 3 is forgotten
	x.finished(5, 8)
	x.does(low(6, 5), "1>0 vote 6 yes -")
	x.does(low(7, 7), "1>0 vote 7 yes -")
	x.finished(8)
	x.does(low(6, 0), "") // held, but below Low
	x.does(decide(6, false), "1>0 ack 6")
	x.finished(8) // 6 is below Low
	x.does(decide(7, false), "1>0 ack 7")
	x.finished(7, 8)
	x.does(decide(99, true), "1>0 ack 99")
	x.finished(7, 8)
	if x.m.State().Low != 7 {
		t.Error("Low")
	}
}

func TestP20_2Refused(t *testing.T) {
	x := open(t, first())
	other := work(1, get("a"))
	other.Epoch = 2
	x.does(other, "1>0 vote 1 refused")
	for i, o := range []api.Op{get("m"), put("z", ""), scan("", "", 1), scan("a", "n", 1), wipe("l", "ma"), wipe("n", "")} {
		x.does(work(uint64(1+i), get("a"), o), fmt.Sprintf("1>0 vote %d refused", 1+i))
	}
	x.does(work(1, scan("", "m", 1), wipe("l", "m")), "1>0 vote 1 yes - -")
	x.does(decide(1, false), "1>0 ack 1")
	for i := range 4 {
		x.does(work(uint64(10+i), put(fmt.Sprint("k", i), "")), fmt.Sprintf("1>0 vote %d yes -", 10+i))
	}
	x.does(work(9, get("k0")), "")
	x.does(work(8, get("k1")), "")
	x.does(work(7, get("b")), "1>0 vote 7 refused")
	x.does(work(9, get("b")), "")
	x.holds(10, 11, 12, 13)
	x.waits(8, 9)
	s := first()
	for i := range 62 {
		s.Finished = append(s.Finished, uint64(100+i))
	}
	y := open(t, s)
	y.does(work(200, put("a", "")), "1>0 vote 200 yes -")
	y.does(work(201, put("b", "")), "1>0 vote 201 yes -")
	y.does(work(202, put("c", "")), "1>0 vote 202 refused")
	m := work(202, put("c", ""))
	m.Low = 101
	y.does(m, "1>0 vote 202 yes -")
}

func TestP20_2Line(t *testing.T) {
	x := open(t, first(), "a=1")
	x.does(work(9, put("a", "9")), "1>0 vote 9 yes -")
	x.does(work(8, put("b", "8")), "1>0 vote 8 yes -")
	x.does(work(5, get("c"), put("a", "5")), "")
	x.does(work(6, put("d", "6"), get("a")), "")
	x.does(work(4, get("b"), put("c", "4")), "")
	x.waits(4, 5, 6)
	// 8 is let go: 4 has b, then asks for c, which 5 reads: it waits.
	x.does(decide(8, true), "1>0 ack 8", "put:b=8")
	x.waits(4, 5, 6)
	// 9 is let go: 5, the elder one, is granted a, and 6 dies of it.
	x.does(decide(9, true), "1>0 ack 9, 1>0 vote 6 died, 1>0 vote 5 yes - -", "put:a=9")
	x.waits(4)
	x.holds(5)
	x.does(decide(5, true), "1>0 ack 5, 1>0 vote 4 yes =8 -", "put:a=5")
	x.finished(5, 8, 9)
	x.does(work(6, put("d", "6"), get("a")), "1>0 vote 6 yes - =5")
	// One that waits and is decided lets its locks go.
	x.does(work(3, put("e", "3"), put("d", "3")), "")
	x.does(work(2, put("e", "2")), "")
	x.does(decide(3, false), "1>0 ack 3, 1>0 vote 2 yes -")
	x.waits()
	x.finished(3, 5, 8, 9)
	x.does(work(3, get("a")), "")
	x.does(work(1, get("e"), get("e"), get("d")), "")
	x.does(decide(2, true), "1>0 ack 2", "put:e=2")
	x.does(decide(6, false), "1>0 ack 6, 1>0 vote 1 yes =2 =2 -")
}

func TestP20_2DiesAndReleases(t *testing.T) {
	x := open(t, first())
	x.does(work(5, put("a", "")), "1>0 vote 5 yes -")
	x.does(work(9, put("k", "")), "1>0 vote 9 yes -")
	x.does(work(7, put("b", ""), get("k")), "")           // has b, waits for 9
	x.does(work(6, put("c", ""), get("b"), get("a")), "") // has c, waits for 7's b
	// 7 goes on: it has all. Then 6 waits still; 9's end comes to 7 alone.
	x.does(decide(9, true), "1>0 ack 9, 1>0 vote 7 yes - =", "put:k=")
	// 7 ends: 6 has b, asks for a, which 5, an elder one, writes: it dies, and lets b and c go.
	x.does(work(4, get("c")), "")
	x.does(decide(7, false), "1>0 ack 7, 1>0 vote 6 died, 1>0 vote 4 yes -")
	x.waits()
	x.holds(4, 5)
	x.finished(7, 9)
}

func TestP20_2Map(t *testing.T) {
	s := first()
	s.Move, s.Frozen, s.Cold = 7, 7, api.Range{Lo: "a", Hi: "c"}
	s.In = api.Inbox{Move: 6, Attempt: 1, Next: 2, Range: api.Range{Lo: "k", Hi: "z"}}
	x := open(t, s, "a=1", "n=2")
	m := api.Msg{Kind: api.Map, Ver: 7, Epoch: 9, Move: 9, Owners: []api.Owner{{Shard: 2}}}
	x.does(m, "1>0 mapack 7")
	m.Ver = 6
	x.does(m, "1>0 mapack 7")
	if got := x.m.State(); got.Epoch != 1 || got.Frozen != 7 {
		t.Errorf("an elder Map: %v", got)
	}
	m = api.Msg{Kind: api.Map, Ver: 8, Epoch: 9, Move: 7, Owners: []api.Owner{{Shard: 2}, {Lo: "c", Shard: 1}, {Lo: "g", Shard: 3}, {Lo: "p", Shard: 1}, {Lo: "s", Shard: 2}}}
	x.does(m, "1>0 mapack 8", "clear:k-p", "clear:s-z", "clear:-c", "clear:g-m")
	got := x.m.State()
	if got.Ver != 8 || got.Epoch != 9 || got.Move != 7 || !slices.Equal(got.Owners, m.Owners) || got.Frozen != 7 || got.Cold != (api.Range{Lo: "a", Hi: "c"}) || got.In != (api.Inbox{}) {
		t.Errorf("the state: %v", got)
	}
	m.Owners[0].Shard = 4
	if x.m.State().Owners[0].Shard != 2 {
		t.Error("what is handed in is kept")
	}
	m = api.Msg{Kind: api.Map, Ver: 9, Epoch: 9, Owners: []api.Owner{{Shard: 1}}}
	x.does(m, "1>0 mapack 9")
	if got := x.m.State(); got.Move != 0 || got.Frozen != 0 || got.Cold != (api.Range{}) {
		t.Errorf("the state: %v", got)
	}
	m = api.Msg{Kind: api.Map, Ver: 10, Epoch: 10, Owners: []api.Owner{{Shard: 1}, {Lo: "g", Shard: 2}, {Lo: "p", Shard: 3}}}
	x.does(m, "1>0 mapack 10", "clear:g-p", "clear:p-")
	// The same move's In stays.
	s.Frozen, s.Cold, s.Move = 0, api.Range{}, 6
	x = open(t, s)
	x.does(api.Msg{Kind: api.Map, Ver: 8, Epoch: 1, Move: 6, Owners: two}, "1>0 mapack 8")
	if x.m.State().In.Next != 2 {
		t.Error("In is gone")
	}
}

// moving is a shard that has a move of g to m to the shard 2.
func moving(t *testing.T, pairs ...string) *shop {
	x := open(t, first(), pairs...)
	x.does(api.Msg{Kind: api.Map, Ver: 8, Epoch: 1, Move: 8, Owners: two}, "1>0 mapack 8")
	return x
}

func copyMsg(flag bool) api.Msg {
	return api.Msg{Kind: api.Copy, Ver: 8, Move: 8, Peer: 2, Flag: flag, Range: api.Range{Lo: "g", Hi: "m"}}
}

func loaded(n uint64) api.Msg {
	return api.Msg{Kind: api.Loaded, From: 2, Move: 8, Attempt: 1, N: n}
}

func TestP20_2Copy(t *testing.T) {
	x := moving(t, "a=0", "g=1", "h=2", "i=3", "j=4", "k=5", "ka=6", "kb=7", "kc=8", "kd=9", "ke=10", "kf=11", "kg=12", "m=0")
	for i, f := range []func(m *api.Msg){func(m *api.Msg) { m.Ver = 7 }, func(m *api.Msg) { m.Ver = 9 }, func(m *api.Msg) { m.Move = 0 }, func(m *api.Msg) { m.Move = 7 }, func(m *api.Msg) { m.Range.Hi = "n" }, func(m *api.Msg) { m.Range = api.Range{Lo: "m"} }, func(m *api.Msg) { m.Peer = 1 }} {
		m := copyMsg(false)
		f(&m)
		x.does(m, "")
		if !x.m.Idle() {
			t.Errorf("%d: there is an outbox", i)
		}
	}
	load0 := "1>2 load 8/1/0 g-m clear:g-m put:g=1 put:h=2 put:i=3 put:j=4 put:k=5"
	x.does(copyMsg(false), load0)
	if x.m.Idle() {
		t.Error("Idle")
	}
	x.does(copyMsg(false), "")
	for _, l := range []api.Msg{loaded(1), {Kind: api.Loaded, From: 3, Move: 8, Attempt: 1}, {Kind: api.Loaded, From: 2, Move: 7, Attempt: 1}, {Kind: api.Loaded, From: 2, Move: 8, Attempt: 2}} {
		x.does(l, "")
	}
	for range 2 {
		d, e := x.m.Tick()
		if says(d.Out) != load0 || d.Lasts || e != api.OK {
			t.Errorf("Tick: %v %d", d, e)
		}
		d.Out[0].Ops[1].Key = "changed"
	}
	// What is written meanwhile is shipped behind.
	x.does(work(5, put("gg", "new"), wipe("", "h"), del("kf"), put("a", "1"), get("g")), "1>0 vote 5 yes - - - - -")
	x.does(decide(5, true), "1>0 ack 5", "put:gg=new", "clear:-h", "del:kf", "put:a=1")
	x.does(loaded(0), "1>2 load 8/1/1 g-m put:ka=6 put:kb=7 put:kc=8 put:kd=9 put:ke=10 put:kg=12")
	x.does(loaded(0), "")
	x.does(loaded(1), "1>2 load 8/1/2 g-m put:gg=new clear:g-h del:kf")
	x.does(copyMsg(false), "")
	x.does(loaded(2), "")
	x.does(copyMsg(false), "1>0 copied 8")
	x.does(work(6, put("h", "late")), "1>0 vote 6 yes -")
	x.does(work(7, put("i", "later")), "1>0 vote 7 yes -")
	x.does(work(4, get("h")), "")
	// It closes: no more transactions of that range, but those that it has.
	x.does(copyMsg(true), "")
	x.does(work(8, get("l")), "1>0 vote 8 refused")
	x.does(work(8, scan("a", "h", 1)), "1>0 vote 8 refused")
	x.does(work(8, get("a")), "1>0 vote 8 yes =1")
	x.does(work(7, get("a")), "1>0 vote 7 yes -")
	x.does(decide(6, true), "1>0 ack 6, 1>0 vote 4 yes =late", "put:h=late")
	x.does(decide(7, false), "1>0 ack 7")
	x.does(copyMsg(true), "1>2 load 8/1/3 g-m put:h=late")
	x.does(loaded(3), "") // 4 touches the range
	x.does(decide(4, true), "1>0 ack 4")
	x.does(copyMsg(false), "1>0 frozen 8")
	s := x.m.State()
	if s.Frozen != 8 || s.Cold != (api.Range{Lo: "g", Hi: "m"}) {
		t.Errorf("the state: %v", s)
	}
	x.does(copyMsg(false), "1>0 frozen 8")
	x.does(work(9, get("l")), "1>0 vote 9 refused")
	x.does(work(9, get("f")), "1>0 vote 9 yes -")
	if d, _ := x.m.Tick(); says(d.Out) != "1>0 ask 8, 1>0 ask 9" {
		t.Errorf("Tick: %v", says(d.Out))
	}
	// What the move made lasts: it is frozen behind a fall, too.
	y := open(t, x.m.State())
	y.does(work(10, get("l")), "1>0 vote 10 refused")
	y.does(copyMsg(false), "1>0 frozen 8")
}

func TestP20_2CopyFew(t *testing.T) {
	for n := range 14 {
		var pairs, want []string
		for i := range n {
			pairs = append(pairs, fmt.Sprintf("h%c=%d", 'a'+i, i))
		}
		x := moving(t, append(pairs, "a=", "m=", "z=")...)
		left := pairs
		count := 5
		for first := true; first || len(left) > 0 || count == 0; first = false {
			k := min(len(left), 6)
			if first {
				k = min(len(left), 5)
			}
			s := fmt.Sprintf("1>2 load 8/1/%d g-m", len(want))
			if first {
				s += " clear:g-m"
			}
			for _, p := range left[:k] {
				s += " put:" + p
			}
			full := k == 6 || first && k == 5
			left = left[k:]
			want = append(want, s)
			count = 1
			if full && len(left) == 0 {
				want = append(want, fmt.Sprintf("1>2 load 8/1/%d g-m", len(want)))
			}
		}
		x.does(copyMsg(false), want[0])
		for i := range want {
			next := ""
			if i+1 < len(want) {
				next = want[i+1]
			}
			x.does(loaded(uint64(i)), next)
		}
		x.does(copyMsg(true), "1>0 frozen 8")
	}
}

func TestP20_2CopyEnds(t *testing.T) {
	// Behind the last pair nothing more can stand: all pairs are shipped.
	top := strings.Repeat("\xff", 12)
	s := api.Shard{Id: 1, Ver: 8, Epoch: 1, Move: 8, Owners: []api.Owner{{Shard: 1}}}
	x := open(t, s, "v=", "w=", "x=", "y=", top+"=")
	m := api.Msg{Kind: api.Copy, Ver: 8, Move: 8, Peer: 2}
	x.does(m, "1>2 load 8/1/0 - clear:- put:v= put:w= put:x= put:y= put:"+top+"=")
	x.does(loaded(0), "")
	x.does(m, "1>0 copied 8")
	// The same at the end of the range.
	s.Owners = []api.Owner{{Shard: 1}, {Lo: "h\x00", Shard: 2}}
	x = open(t, s, "a=", "b=", "c=", "d=", "h=")
	m.Range.Hi = "h\x00"
	x.does(m, "1>2 load 8/1/0 -h\x00 clear:-h\x00 put:a= put:b= put:c= put:d= put:h=")
	m.Flag = true
	x.does(m, "")
	x.does(work(5, get("a")), "1>0 vote 5 refused")
	x.does(loaded(0), "1>0 frozen 8")
}

func TestP20_2OutboxGone(t *testing.T) {
	x := moving(t, "h=1")
	x.does(copyMsg(true), "1>2 load 8/1/0 g-m clear:g-m put:h=1")
	x.does(api.Msg{Kind: api.Map, Ver: 9, Epoch: 1, Owners: []api.Owner{{Shard: 1}, {Lo: "g", Shard: 1}, {Lo: "m", Shard: 2}}}, "1>0 mapack 9")
	if !x.m.Idle() {
		t.Error("there is an outbox")
	}
	x.does(loaded(0), "")
	x.does(work(5, get("h")), "1>0 vote 5 yes =1")
	if d, _ := x.m.Tick(); says(d.Out) != "1>0 ask 5" {
		t.Errorf("Tick: %q", says(d.Out))
	}
}

func TestP20_2Load(t *testing.T) {
	s := api.Shard{Id: 2, Ver: 8, Epoch: 1, Move: 8, Owners: []api.Owner{{Shard: 1}, {Lo: "m", Shard: 2}}}
	x := open(t, s, "h=old", "z=")
	in := api.Range{Lo: "g", Hi: "m"}
	load := func(attempt, n uint64, l ...api.Op) api.Msg {
		return api.Msg{Kind: api.Load, From: 1, Move: 8, Attempt: attempt, N: n, Range: in, Ops: l}
	}
	change := func(m api.Msg, f func(m *api.Msg)) api.Msg {
		f(&m)
		return m
	}
	l0 := load(3, 0, wipe("g", "m"), put("h", "1"))
	for _, f := range []func(m *api.Msg){func(m *api.Msg) { m.Move = 0 }, func(m *api.Msg) { m.Move = 7 }, func(m *api.Msg) { m.Range.Hi = "n" }, func(m *api.Msg) { m.Ops = []api.Op{put("a", "")} }, func(m *api.Msg) { m.Ops = []api.Op{wipe("f", "h")} }, func(m *api.Msg) { m.N = 1 }} {
		x.does(change(l0, f), "")
		if x.m.State().In.Move != 0 {
			t.Error("In")
		}
	}
	x.does(l0, "2>1 loaded 8/3/0", "clear:g-m", "put:h=1")
	if got := x.m.State().In; got != (api.Inbox{Move: 8, Attempt: 3, Next: 1, Range: in}) || x.m.Idle() {
		t.Errorf("In: %v", got)
	}
	x.does(l0, "2>1 loaded 8/3/0") // once more: nothing is written
	x.does(load(3, 2, put("k", "")), "")
	x.does(load(2, 0, wipe("g", "m")), "")
	x.does(load(2, 1), "")
	x.does(load(4, 1), "")
	x.does(change(load(3, 1, put("h", "2")), func(m *api.Msg) { m.Range.Lo = "h" }), "")
	x.does(change(load(3, 1, put("h", "2")), func(m *api.Msg) { m.From = 3 }), "2>3 loaded 8/3/1", "put:h=2")
	x.does(load(3, 2), "2>1 loaded 8/3/2")
	x.does(load(5, 0, wipe("g", "m")), "2>1 loaded 8/5/0", "clear:g-m")
	x.does(load(3, 3, put("h", "")), "")
	x.does(load(5, 1, del("h")), "2>1 loaded 8/5/1", "del:h")
	// In lasts behind a fall; a Map with another move takes what was loaded away.
	y := open(t, x.m.State(), "h=3")
	y.does(load(5, 2, put("i", "")), "2>1 loaded 8/5/2", "put:i=")
	y.does(api.Msg{Kind: api.Map, Ver: 9, Epoch: 1, Owners: s.Owners}, "2>0 mapack 9", "clear:g-m")
	y.does(load(5, 3), "")
	// With the owners that the move makes it stays.
	x.does(api.Msg{Kind: api.Map, Ver: 9, Epoch: 2, Owners: []api.Owner{{Shard: 1}, {Lo: "g", Shard: 2}}}, "2>0 mapack 9")
	if x.m.State().In != (api.Inbox{}) || !x.m.Idle() {
		t.Error("In")
	}
}

func TestP20_2StoreFails(t *testing.T) {
	x := open(t, first(), "a=1")
	x.st.fail = api.ErrDown
	for _, o := range []api.Op{get("a"), scan("", "m", 1)} {
		m := work(5, o)
		m.To = 1
		if d, e := x.m.Take(m); d.Out != nil || d.Lasts || e != api.ErrDown {
			t.Errorf("Take: %v %d", d, e)
		}
	}
	x = moving(t, "h=")
	x.st.fail = api.ErrDown
	m := copyMsg(false)
	m.To = 1
	if d, e := x.m.Take(m); d.Out != nil || e != api.ErrDown {
		t.Errorf("Take: %v %d", d, e)
	}
}

func TestP20_3Tick(t *testing.T) {
	x := open(t, first())
	if d, e := x.m.Tick(); len(d.Out) != 0 || d.Lasts || len(d.Writes) != 0 || e != api.OK {
		t.Errorf("Tick: %v %d", d, e)
	}
	x.take(work(5, put("a", "")))
	x.take(work(7, put("b", "")))
	x.take(work(4, get("a")))
	x.take(work(6, get("b")))
	for range 2 {
		if d, e := x.m.Tick(); says(d.Out) != "1>0 ask 4, 1>0 ask 5, 1>0 ask 6, 1>0 ask 7" || d.Lasts || e != api.OK {
			t.Errorf("Tick: %v %d", says(d.Out), e)
		}
	}
}

func TestP20_4Follows(t *testing.T) {
	r := rand.New(rand.NewSource(1))
	keys := []string{"a", "b", "c", "d", "e"}
	for range 200 {
		x := open(t, first())
		yes := map[uint64][]api.Op{}
		done := map[uint64]bool{}
		var next uint64 = 1
		for range 150 {
			txn := next - min(next-1, uint64(r.Intn(8)))
			var d part.Deed
			switch r.Intn(5) {
			case 0, 1:
				next++
				var l []api.Op
				for range 1 + r.Intn(3) {
					k := keys[r.Intn(5)]
					l = append(l, []api.Op{get(k), put(k, fmt.Sprint(next)), scan(k, "f", 2), wipe(k, "e\x00"), del(k)}[r.Intn(5)])
				}
				m := work(next, l...)
				if next > 20 {
					m.Low = next - 20
				}
				d = x.take(m)
			case 2, 3:
				flag := yes[txn] != nil && r.Intn(2) == 0
				if done[txn] {
					flag = true
				}
				d = x.take(decide(txn, flag))
				if done[txn] && len(d.Writes) > 0 {
					t.Fatal("what is finished is written again")
				}
				if flag && !done[txn] && strings.TrimSpace(ops(d.Writes)) != strings.TrimSpace(ops(writesOf(yes[txn]))) {
					t.Fatalf("written: %v, want %v", d.Writes, yes[txn])
				}
				done[txn] = true
				delete(yes, txn)
			case 4:
				// It falls: what is held stays so.
				m, e := part.New(x.m.State(), x.st)
				if e != api.OK {
					t.Fatalf("New behind a fall: %d", e)
				}
				x = &shop{t, m, x.st}
			}
			for _, m := range d.Out {
				if m.Kind == api.Vote && m.Code == api.Yes {
					for _, h := range x.m.State().Held {
						if h.Txn == m.Txn {
							yes[m.Txn] = h.Ops
						}
					}
				}
			}
			held := x.m.State().Held
			for _, a := range held {
				for _, b := range held {
					la, _ := op.Locks(a.Ops)
					lb, _ := op.Locks(b.Ops)
					for _, p := range la {
						for _, q := range lb {
							if _, meet := span.Meet(p.Range, q.Range); a.Txn != b.Txn && meet && (p.Write || q.Write) {
								t.Fatalf("%d and %d are held", a.Txn, b.Txn)
							}
						}
					}
				}
			}
		}
	}
}

func writesOf(l []api.Op) []api.Op {
	var out []api.Op
	for _, o := range l {
		if op.Writes(o) {
			out = append(out, o)
		}
	}
	return out
}
