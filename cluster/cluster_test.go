package cluster_test

import (
	"fmt"
	"math/rand"
	"reflect"
	"slices"
	"strings"
	"testing"

	"sumpter/api"
	"sumpter/cluster"
	"sumpter/op"
	"sumpter/owner"
	"sumpter/wire"
)

func get(k string) api.Op              { return api.Op{Kind: api.Get, Key: k} }
func put(k, v string) api.Op           { return api.Op{Kind: api.Put, Key: k, Value: v} }
func del(k string) api.Op              { return api.Op{Kind: api.Del, Key: k} }
func scan(lo, hi string, n int) api.Op { return api.Op{Kind: api.Scan, Lo: lo, Hi: hi, Most: n} }
func wipe(lo, hi string) api.Op        { return api.Op{Kind: api.Clear, Lo: lo, Hi: hi} }

func begin(c int, l ...api.Op) api.Act { return api.Act{Kind: api.Begin, A: c, Ops: l} }

var (
	two   = []api.Owner{{Shard: 1}, {Lo: "m", Shard: 2}}
	round = api.Act{Kind: api.Round}
)

func made(t *testing.T, n int, l []api.Owner) *cluster.Cluster {
	t.Helper()
	c, e := cluster.New(n, l)
	if c == nil || e != api.OK {
		t.Fatalf("New: %d", e)
	}
	return c
}

func do(t *testing.T, c *cluster.Cluster, l ...api.Act) {
	t.Helper()
	for _, a := range l {
		if e := c.Do(a); e != api.OK {
			t.Fatalf("Do(%v): %d", a, e)
		}
	}
}

func refuses(t *testing.T, c *cluster.Cluster, a api.Act, want api.Errno) {
	t.Helper()
	seen, letters := len(c.Seen()), len(c.Letters())
	if e := c.Do(a); e != want {
		t.Errorf("Do(%v): %d, want %d", a, e, want)
	}
	if len(c.Seen()) != seen || len(c.Letters()) != letters {
		t.Errorf("Do(%v) does something", a)
	}
}

func pairs(m []api.Pair) string {
	var l []string
	for _, p := range m {
		l = append(l, p.Key+"="+p.Value)
	}
	return strings.Join(l, " ")
}

func maps(t *testing.T, c *cluster.Cluster, want string) {
	t.Helper()
	m, e := c.Map()
	if got := pairs(m); got != want || e != api.OK {
		t.Errorf("Map: %q %d, want %q", got, e, want)
	}
}

// told is what was seen, in short.
func told(l []api.Seen) string {
	var out []string
	for _, s := range l {
		switch s.Kind {
		case api.Asked:
			out = append(out, fmt.Sprintf("asked %d/%d", s.Client, s.Req))
		case api.Decided:
			out = append(out, fmt.Sprintf("decided %d/%d", s.Client, s.Req))
		case api.Told:
			r := fmt.Sprintf("told %d/%d %s", s.Client, s.Req, map[int]string{api.Committed: "committed", api.Aborted: "aborted"}[s.Code])
			for _, x := range s.Results {
				switch {
				case x.Found:
					r += " =" + x.Value
				case len(x.Pairs) > 0:
					r += " [" + pairs(x.Pairs) + "]"
				default:
					r += " -"
				}
			}
			out = append(out, r)
		}
	}
	return strings.Join(out, ", ")
}

func sees(t *testing.T, c *cluster.Cluster, want string) {
	t.Helper()
	if got := told(c.Seen()); got != want {
		t.Errorf("Seen: %q, want %q", got, want)
	}
}

// replay judges what was seen (P0.1), and tells the map that was decided.
func replay(t *testing.T, c *cluster.Cluster) []api.Pair {
	t.Helper()
	type request struct {
		client int
		req    uint64
	}
	type fate struct {
		ops           []api.Op
		decided, told bool
		results       []api.Result
	}
	all := map[request]*fate{}
	var m []api.Pair
	for i, s := range c.Seen() {
		k := request{s.Client, s.Req}
		f := all[k]
		switch s.Kind {
		case api.Asked:
			if f != nil || op.Check(s.Ops) != api.OK {
				t.Fatalf("%d: asked twice", i)
			}
			all[k] = &fate{ops: s.Ops}
		case api.Decided:
			if f == nil || f.decided || f.told {
				t.Fatalf("%d: decided twice, or told ahead of it", i)
			}
			f.decided = true
			m, f.results, _ = op.Apply(m, f.ops)
		case api.Told:
			if f == nil || f.told || f.decided != (s.Code == api.Committed) {
				t.Fatalf("%d: told %d, decided %v", i, s.Code, f != nil && f.decided)
			}
			f.told = true
			if s.Code == api.Committed && told([]api.Seen{{Kind: api.Told, Results: f.results}}) != told([]api.Seen{{Kind: api.Told, Results: s.Results}}) {
				t.Fatalf("%d: %v was told, want %v", i, s.Results, f.results)
			}
		}
	}
	return m
}

func TestP22_1New(t *testing.T) {
	for i, x := range []struct {
		n int
		l []api.Owner
		e api.Errno
	}{{0, two, api.ErrArg}, {5, two, api.ErrArg}, {-1, nil, api.ErrArg}, {2, nil, api.ErrOwner}, {1, two, api.ErrOwner}, {2, []api.Owner{{Lo: "a", Shard: 1}}, api.ErrOwner}, {4, []api.Owner{{Shard: 5}}, api.ErrOwner}} {
		if c, e := cluster.New(x.n, x.l); c != nil || e != x.e {
			t.Errorf("%d: New: %d, want %d", i, e, x.e)
		}
	}
	for n := 1; n <= 4; n++ {
		l := []api.Owner{{Shard: n}}
		c := made(t, n, l)
		l[0].Shard = 7
		for node := -2; node < 16; node++ {
			if c.Up(node) != (node >= 0 && node <= n) {
				t.Errorf("Up(%d): %v", node, c.Up(node))
			}
		}
		if len(c.Seen())+len(c.Letters())+c.Doubt() != 0 || !slices.Equal(c.Owners(), []api.Owner{{Shard: n}}) || c.Idle() {
			t.Error("a new one")
		}
		maps(t, c, "")
		do(t, c, round, round)
		if !c.Idle() {
			t.Error("it is idle behind the first rounds")
		}
		c.Owners()[0].Shard = 3
		if c.Owners()[0].Shard != n {
			t.Error("Owners shares memory")
		}
	}
}

func TestP22_2Begin(t *testing.T) {
	c := made(t, 2, two)
	for i, x := range []struct {
		a api.Act
		e api.Errno
	}{{begin(0, get("a")), api.ErrArg}, {begin(5, api.Op{}), api.ErrArg}, {begin(1), api.ErrMany}, {begin(1, get("")), api.ErrKey}, {begin(1, api.Op{}), api.ErrOp}, {api.Act{Kind: api.Resend}, api.ErrArg}, {api.Act{Kind: api.Resend, A: 5}, api.ErrArg}, {api.Act{Kind: api.Resend, A: 1}, api.ErrState}} {
		if e := c.Do(x.a); e != x.e {
			t.Errorf("%d: %d, want %d", i, e, x.e)
		}
	}
	ops := []api.Op{put("a", "1"), put("z", "2"), get("a")}
	do(t, c, begin(1, ops...))
	ops[0].Key = "changed"
	refuses(t, c, begin(1, get("a")), api.ErrState)
	refuses(t, c, begin(1, get("")), api.ErrKey)
	do(t, c, api.Act{Kind: api.Resend, A: 1})
	l := c.Letters()
	if len(l) != 2 || l[0].From != 11 || l[0].To != 0 || string(l[0].Bytes) != string(l[1].Bytes) {
		t.Errorf("Letters: %v", l)
	}
	m, e := wire.Decode(l[0].Bytes)
	if m.Kind != api.Request || m.Req != 1 || m.Boot != 1 || len(m.Ops) != 3 || m.Ops[0].Key != "a" || e != api.OK {
		t.Errorf("the request: %v %d", m, e)
	}
	sees(t, c, "asked 1/1")
	do(t, c, round)
	sees(t, c, "asked 1/1, decided 1/1, told 1/1 committed - - =1")
	maps(t, c, "a=1 z=2")
	do(t, c, round)
	if !c.Idle() || c.Doubt() != 0 {
		t.Error("it is idle")
	}
	refuses(t, c, api.Act{Kind: api.Resend, A: 1}, api.ErrState)
	do(t, c, begin(2, scan("", "", 4)), round)
	sees(t, c, "asked 1/1, decided 1/1, told 1/1 committed - - =1, asked 2/1, decided 2/1, told 2/1 committed [a=1 z=2]")
	do(t, c, begin(1, get("q")), round)
	if s := c.Seen(); s[len(s)-1].Req != 2 {
		t.Error("Req")
	}
	s := c.Seen()
	s[0].Ops[0].Key, s[5].Results[0].Pairs[0].Key = "changed", "changed"
	if s := c.Seen(); s[0].Ops[0].Key != "a" || s[5].Results[0].Pairs[0].Key != "a" {
		t.Error("Seen shares memory")
	}
}

func TestP22_2Letters(t *testing.T) {
	c := made(t, 2, two)
	for _, kind := range []int{api.Deliver, api.Drop, api.Double, api.Spoil} {
		for _, b := range []int{0, -1, 7} {
			refuses(t, c, api.Act{Kind: kind, B: b}, api.ErrNone)
		}
	}
	do(t, c, begin(1, put("a", "1")))
	refuses(t, c, api.Act{Kind: api.Spoil, Mask: strings.Repeat("x", 4104)}, api.ErrLong)
	do(t, c, api.Act{Kind: api.Double}, api.Act{Kind: api.Spoil, Mask: "junk"}, api.Act{Kind: api.Deliver})
	if len(c.Letters()) != 1 {
		t.Errorf("junk does something: %v", c.Letters())
	}
	do(t, c, api.Act{Kind: api.Deliver}) // the request: a Work
	do(t, c, api.Act{Kind: api.Drop})
	if len(c.Letters()) != 0 {
		t.Error("Drop")
	}
	do(t, c, api.Act{Kind: api.Tick, A: 0})
	var kinds []int
	for _, l := range c.Letters() {
		m, _ := wire.Decode(l.Bytes)
		kinds = append(kinds, m.Kind)
	}
	if !slices.Equal(kinds, []int{api.Work, api.Map, api.Map}) {
		t.Errorf("kinds: %v", kinds)
	}
	// A letter whose message is to another node, or that is to none, is nothing.
	x, _ := wire.Encode(api.Msg{Kind: api.Decide, To: 2, Txn: 1<<32 + 1})
	do(t, c, api.Act{Kind: api.Spoil, B: 0, Mask: string(x)}, api.Act{Kind: api.Deliver})
	if len(c.Letters()) != 2 {
		t.Error("a message to another node does something")
	}
	do(t, c, round, round)
	maps(t, c, "a=1")
	do(t, c, begin(1, put("a", "2")))
	for len(c.Letters()) < 128 {
		do(t, c, api.Act{Kind: api.Double})
	}
	refuses(t, c, api.Act{Kind: api.Double}, api.ErrFull)
	do(t, c, api.Act{Kind: api.Tick, A: 0}, api.Act{Kind: api.Resend, A: 1}) // what has no room is lost
	if len(c.Letters()) != 128 {
		t.Error("there is more than may be")
	}
	do(t, c, round, round)
	maps(t, c, "a=2")
}

func TestP22_2OtherClient(t *testing.T) {
	c := made(t, 2, two)
	do(t, c, round, round, begin(1, get("a")), begin(2, get("a")))
	for _, m := range []api.Msg{{Kind: api.Answer, To: 12, Req: 1, Boot: 1, Code: api.Aborted}, {Kind: api.Answer, To: 11, Req: 2, Boot: 1, Code: api.Aborted}, {Kind: api.Ack, From: 4, Txn: 1}, {Kind: api.Vote, From: 3, Txn: 1<<32 + 1, Code: api.Died}} {
		b, e := wire.Encode(m)
		if e != api.OK {
			t.Fatal(e)
		}
		// An Answer to the client 1 takes its place, where one is under way; a Request else.
		step(t, c, api.Answer, false)
		to := c.Letters()[0].To
		do(t, c, api.Act{Kind: api.Double}, api.Act{Kind: api.Spoil, Mask: string(b)})
		if m.To != to || m.Req == 2 {
			do(t, c, api.Act{Kind: api.Deliver})
		} else {
			do(t, c, api.Act{Kind: api.Drop})
		}
		if got := told(c.Seen()); strings.Contains(got, "told") || !c.Up(0) {
			t.Fatalf("%v: %q", m, got)
		}
		for len(c.Letters()) > 0 {
			do(t, c, api.Act{Kind: api.Drop})
		}
		do(t, c, api.Act{Kind: api.Resend, A: 1})
	}
	// A message to the coordinator that is not its.
	for _, m := range []api.Msg{{Kind: api.Ack, From: 4, Txn: 1}, {Kind: api.Vote, From: 3, Txn: 1<<32 + 1, Code: api.Died}} {
		b, _ := wire.Encode(m)
		do(t, c, api.Act{Kind: api.Resend, A: 1})
		last := len(c.Letters()) - 1
		do(t, c, api.Act{Kind: api.Spoil, B: last, Mask: string(b)}, api.Act{Kind: api.Deliver, B: last})
		if !c.Up(0) {
			t.Fatal("it went down")
		}
	}
	do(t, c, round, round)
	sees(t, c, "asked 1/1, asked 2/1, decided 1/1, decided 2/1, told 1/1 committed -, told 2/1 committed -")
}

func TestP22_3Idle(t *testing.T) {
	c := made(t, 2, two)
	do(t, c, round, round, begin(1, get("a")), api.Act{Kind: api.Drop})
	if len(c.Letters()) != 0 || c.Idle() {
		t.Error("a request waits")
	}
	do(t, c, api.Act{Kind: api.Resend, A: 1})
	step(t, c, api.Answer, false)
	do(t, c, api.Act{Kind: api.Double})
	for len(c.Letters()) > 0 {
		if c.Idle() {
			t.Error("a letter is under way")
		}
		if len(c.Letters()) > 1 || c.Doubt() == 0 {
			do(t, c, api.Act{Kind: api.Deliver})
		}
	}
	if !c.Idle() {
		t.Error("it is idle")
	}
}

func TestP22_2Full(t *testing.T) {
	// An engine that takes no more: its node is made anew, or goes down; nothing that was told is not so.
	c := made(t, 1, []api.Owner{{Shard: 1}})
	n := 0
	for i := 0; i < 2000; i++ {
		for client := 1; client <= 4; client++ {
			var l []api.Op
			for range 4 {
				l = append(l, put(fmt.Sprintf("%012d", n*7919%1000003), strings.Repeat("v", 16)))
				n++
			}
			c.Do(begin(client, l...))
		}
		do(t, c, round)
		if m, e := c.Map(); e != api.OK || len(m) < n {
			break
		}
	}
	if n < 200 || n > 20000 {
		t.Errorf("full with %d pairs", n)
	}
	for range 3 {
		do(t, c, round)
		c.Do(api.Act{Kind: api.Start, A: 1})
	}
	want := replay(t, c)
	if m, e := c.Map(); e == api.OK && len(m) < len(want)-64 {
		t.Errorf("%d pairs are left of %d", len(m), len(want))
	}
	if c.Up(1) {
		c.Do(api.Act{Kind: api.Crash, A: 1})
	}
	if e := c.Do(api.Act{Kind: api.Start, A: 1}); e != api.OK && e != api.ErrDown || c.Up(1) != (e == api.OK) {
		t.Errorf("Start: %d", e)
	}
}

func TestP22_2Nodes(t *testing.T) {
	c := made(t, 2, two)
	for _, kind := range []int{api.Tick, api.Crash, api.Start, api.Fuse} {
		for _, a := range []int{-1, 3, 11, 1 << 40} {
			refuses(t, c, api.Act{Kind: kind, A: a}, api.ErrArg)
		}
	}
	for _, kind := range []int{api.NoAct, -1, 14, 99} {
		refuses(t, c, api.Act{Kind: kind}, api.ErrArg)
	}
	refuses(t, c, api.Act{Kind: api.Start, A: 1}, api.ErrState)
	do(t, c, begin(1, put("a", "1"), put("z", "2")), round, round)
	before := c.Seen()
	do(t, c, api.Act{Kind: api.Crash, A: 1})
	if c.Up(1) || !c.Up(2) || c.Idle() {
		t.Error("Up")
	}
	refuses(t, c, api.Act{Kind: api.Tick, A: 1}, api.ErrDown)
	refuses(t, c, api.Act{Kind: api.Fuse, A: 1}, api.ErrDown)
	if m, e := c.Map(); m != nil || e != api.ErrDown {
		t.Errorf("Map: %d", e)
	}
	do(t, c, api.Act{Kind: api.Crash, A: 1}, api.Act{Kind: api.Start, A: 1})
	maps(t, c, "a=1 z=2")
	do(t, c, api.Act{Kind: api.Crash, A: 0})
	refuses(t, c, api.Act{Kind: api.Split, Key: "g"}, api.ErrDown)
	refuses(t, c, api.Act{Kind: api.Move, Key: "g", B: 2}, api.ErrDown)
	maps(t, c, "a=1 z=2")
	do(t, c, begin(1, get("a")), round)
	if !slices.Equal(c.Owners(), two) {
		t.Errorf("Owners: %v", c.Owners())
	}
	do(t, c, api.Act{Kind: api.Start, A: 0}, round, round, round)
	if got := told(c.Seen()[len(before):]); got != "asked 1/2, told 1/2 aborted" {
		t.Errorf("Seen: %q", got) // the request was of the first boot
	}
	do(t, c, begin(1, get("a")), round)
	if got := told(c.Seen()[len(before)+2:]); got != "asked 1/3, decided 1/3, told 1/3 committed =1" {
		t.Errorf("Seen: %q", got)
	}
	// A fuse: the node goes down by itself, and nothing is sent.
	do(t, c, round, api.Act{Kind: api.Fuse, A: 2, B: 0}, begin(1, put("y", "3")), round)
	if c.Up(2) {
		t.Error("the fuse")
	}
	do(t, c, api.Act{Kind: api.Start, A: 2}, round, round)
	maps(t, c, "a=1 y=3 z=2")
	do(t, c, api.Act{Kind: api.Fuse, A: 2, B: 0}, api.Act{Kind: api.Fuse, A: 2, B: -1}, begin(1, put("y", "4")), round, round)
	maps(t, c, "a=1 y=4 z=2")
}

func TestP22_2Split(t *testing.T) {
	c := made(t, 2, two)
	do(t, c, round, begin(1, put("a", "1"), put("h", "2"), put("z", "3")), round, round)
	for _, x := range []struct {
		a api.Act
		e api.Errno
	}{{api.Act{Kind: api.Split}, api.ErrKey}, {api.Act{Kind: api.Split, Key: "m"}, api.ErrTwice}, {api.Act{Kind: api.Move, B: 2}, api.ErrKey}, {api.Act{Kind: api.Move, Key: "a", B: 1}, api.ErrArg}, {api.Act{Kind: api.Move, Key: "a", B: 3}, api.ErrArg}} {
		refuses(t, c, x.a, x.e)
	}
	do(t, c, api.Act{Kind: api.Split, Key: "g"})
	if !slices.Equal(c.Owners(), []api.Owner{{Shard: 1}, {Lo: "g", Shard: 1}, {Lo: "m", Shard: 2}}) {
		t.Errorf("Owners: %v", c.Owners())
	}
	do(t, c, round, api.Act{Kind: api.Move, Key: "h", B: 2})
	refuses(t, c, api.Act{Kind: api.Split, Key: "b"}, api.ErrState)
	refuses(t, c, api.Act{Kind: api.Move, Key: "b", B: 2}, api.ErrState)
	do(t, c, begin(1, put("i", "4")))
	for range 8 {
		do(t, c, round)
		maps(t, c, "a=1 h=2 i=4 z=3")
	}
	if !slices.Equal(c.Owners(), []api.Owner{{Shard: 1}, {Lo: "g", Shard: 2}, {Lo: "m", Shard: 2}}) || !c.Idle() {
		t.Errorf("Owners: %v", c.Owners())
	}
}

// step delivers letters till one of a kind is there, and delivers that one as well, if wanted.
func step(t *testing.T, c *cluster.Cluster, kind int, also bool) {
	t.Helper()
	for range 300 {
		l := c.Letters()
		if len(l) == 0 {
			break
		}
		m, _ := wire.Decode(l[0].Bytes)
		if m.Kind != kind {
			do(t, c, api.Act{Kind: api.Deliver})
			continue
		}
		if also {
			do(t, c, api.Act{Kind: api.Deliver})
		}
		return
	}
	t.Fatalf("no letter of kind %d", kind)
}

func TestP22_3Examples(t *testing.T) {
	t.Run("two put one key at once", func(t *testing.T) {
		c := made(t, 2, two)
		do(t, c, round, begin(1, put("a", "1")), begin(2, put("a", "2")), round, round)
		sees(t, c, "asked 1/1, asked 2/1, decided 1/1, told 1/1 committed -, told 2/1 aborted")
		maps(t, c, "a=1")
	})
	t.Run("the coordinator falls behind its decision", func(t *testing.T) {
		c := made(t, 2, two)
		do(t, c, round, begin(1, put("a", "1"), put("z", "2")))
		step(t, c, api.Answer, false)
		if c.Doubt() != 2 {
			t.Errorf("Doubt: %d", c.Doubt())
		}
		sees(t, c, "asked 1/1, decided 1/1")
		for len(c.Letters()) > 0 {
			do(t, c, api.Act{Kind: api.Drop})
		}
		do(t, c, api.Act{Kind: api.Crash}, api.Act{Kind: api.Start}, round, round)
		sees(t, c, "asked 1/1, decided 1/1, told 1/1 committed - -")
		maps(t, c, "a=1 z=2")
	})
	t.Run("the coordinator falls ahead of its decision", func(t *testing.T) {
		c := made(t, 2, two)
		do(t, c, round, begin(1, put("a", "1"), put("z", "2")))
		step(t, c, api.Vote, false)
		do(t, c, api.Act{Kind: api.Crash}, api.Act{Kind: api.Start}, round, round)
		sees(t, c, "asked 1/1, told 1/1 aborted")
		if c.Doubt() != 0 {
			t.Errorf("Doubt: %d", c.Doubt())
		}
		maps(t, c, "")
	})
	t.Run("a shard falls behind its vote", func(t *testing.T) {
		c := made(t, 2, two)
		do(t, c, round, begin(1, put("a", "1"), put("z", "2")))
		step(t, c, api.Vote, false)
		do(t, c, api.Act{Kind: api.Crash, A: 1}, api.Act{Kind: api.Start, A: 1})
		if c.Doubt() != 2 {
			t.Errorf("Doubt: %d", c.Doubt())
		}
		do(t, c, round, round)
		sees(t, c, "asked 1/1, decided 1/1, told 1/1 committed - -")
		maps(t, c, "a=1 z=2")
	})
	t.Run("what is doubled changes nothing", func(t *testing.T) {
		c := made(t, 2, two)
		do(t, c, round, begin(1, put("a", "1"), put("z", "2")))
		for range 6 {
			for j := range c.Letters() {
				do(t, c, api.Act{Kind: api.Double, B: j})
			}
			for range c.Letters() {
				do(t, c, api.Act{Kind: api.Deliver})
			}
		}
		do(t, c, round, round)
		sees(t, c, "asked 1/1, decided 1/1, told 1/1 committed - -")
		maps(t, c, "a=1 z=2")
	})
	t.Run("a part that was cut by elder owners is refused", func(t *testing.T) {
		c := made(t, 2, two)
		do(t, c, round, round, begin(1, put("a", "1")))
		step(t, c, api.Work, false)
		do(t, c, api.Act{Kind: api.Double}, api.Act{Kind: api.Drop}, api.Act{Kind: api.Split, Key: "g"})
		// The shard learns of the owners first.
		do(t, c, api.Act{Kind: api.Deliver, B: 1}, round, round)
		sees(t, c, "asked 1/1, told 1/1 aborted")
		maps(t, c, "")
	})
	t.Run("a shard falls in the midst of a move", func(t *testing.T) {
		c := made(t, 2, two)
		var l []api.Op
		for i := range 12 {
			l = append(l, put(fmt.Sprintf("h%02d", i), "x"))
		}
		for i := 0; i < 12; i += 4 {
			do(t, c, begin(1, l[i:i+4]...), round, round)
		}
		want, _ := c.Map()
		do(t, c, api.Act{Kind: api.Split, Key: "g"}, round, api.Act{Kind: api.Move, Key: "h", B: 2}, round)
		for range 3 {
			do(t, c, api.Act{Kind: api.Tick, A: 0})
			step(t, c, api.Load, true)
			do(t, c, api.Act{Kind: api.Crash, A: 1}, api.Act{Kind: api.Start, A: 1})
			maps(t, c, pairs(want))
		}
		for range 10 {
			do(t, c, round)
			maps(t, c, pairs(want))
		}
		if c.Owners()[1].Shard != 2 || !c.Idle() {
			t.Errorf("Owners: %v", c.Owners())
		}
	})
}

func TestP22_3FoundDecision(t *testing.T) {
	// The decision survives, though the engine answered that its device is down.
	for fuse := range 60 {
		c := made(t, 2, two)
		do(t, c, round, round, begin(1, put("a", "1"), put("z", "2")))
		step(t, c, api.Vote, true)
		step(t, c, api.Vote, false)
		do(t, c, api.Act{Kind: api.Fuse, B: fuse}, api.Act{Kind: api.Deliver})
		if c.Up(0) {
			if fuse == 0 {
				t.Error("the fuse")
			}
			sees(t, c, "asked 1/1, decided 1/1")
			break
		}
		sees(t, c, "asked 1/1")
		do(t, c, api.Act{Kind: api.Crash, Mask: strings.Repeat("\x01", 64)}, api.Act{Kind: api.Start})
		got := told(c.Seen())
		if got != "asked 1/1" && got != "asked 1/1, decided 1/1" {
			t.Errorf("Seen: %q", got)
		}
		do(t, c, round, round, round)
		m := replay(t, c)
		maps(t, c, pairs(m))
	}
}

func TestP0_4NoMessages(t *testing.T) {
	r := rand.New(rand.NewSource(1))
	c := made(t, 3, []api.Owner{{Shard: 1}, {Lo: "g", Shard: 2}, {Lo: "p", Shard: 3}})
	do(t, c, round, round, begin(1, put("a", "1"), put("h", "2"), put("q", "3")), round, round)
	seen := told(c.Seen())
	for i := range 22 {
		do(t, c, begin(2+i%3, get("a")))
		b := make([]byte, r.Intn(40))
		r.Read(b)
		l := c.Letters()
		last := len(l) - 1
		if r.Intn(2) == 0 {
			b = l[last].Bytes
			b[r.Intn(len(b))] ^= 1 << uint(r.Intn(8))
		}
		do(t, c, api.Act{Kind: api.Spoil, B: last, Mask: string(b)}, api.Act{Kind: api.Deliver, B: last})
		if len(c.Letters()) != 0 {
			t.Fatal("what is none of the messages is answered")
		}
		c.Do(api.Act{Kind: api.Resend, A: 2 + i%3})
		do(t, c, round)
	}
	if !strings.HasPrefix(told(c.Seen()), seen) {
		t.Error("what is none of the messages changes something")
	}
	do(t, c, round)
	maps(t, c, "a=1 h=2 q=3")
	// Messages that may be, but that nobody sent.
	for range 3000 {
		m := api.Msg{Kind: 1 + r.Intn(14), From: r.Intn(15), To: r.Intn(4), Txn: uint64(r.Intn(5)), Ver: uint64(r.Intn(9)) << 32, Move: uint64(r.Intn(3)) << 32, Req: uint64(r.Intn(3)), Boot: uint64(r.Intn(3)), N: uint64(r.Intn(3)), Code: r.Intn(6), Peer: r.Intn(5), Ops: []api.Op{put("a", "x")}, Owners: two}
		if b, e := wire.Encode(m); e == api.OK && m.Kind != api.Map {
			do(t, c, begin(2, get("a")))
			do(t, c, api.Act{Kind: api.Spoil, Mask: string(b)}, api.Act{Kind: api.Deliver})
			do(t, c, round)
		}
	}
}

// chaos does acts at random, with its own numbers, and looks at what has to hold at each step.
type chaos struct {
	t      *testing.T
	r      *rand.Rand
	c      *cluster.Cluster
	shards int
	keys   []string
	log    []api.Act
}

func (x *chaos) ops() []api.Op {
	key := func() string { return x.keys[x.r.Intn(len(x.keys))] }
	var l []api.Op
	for range 1 + x.r.Intn(4) {
		lo, hi := key(), key()
		if lo > hi {
			lo, hi = hi, lo
		}
		if lo == hi || x.r.Intn(4) == 0 {
			hi = ""
		}
		if x.r.Intn(4) == 0 {
			lo = ""
		}
		v := fmt.Sprint(x.r.Intn(1000))
		l = append(l, []api.Op{get(key()), put(key(), v), put(key(), v), del(key()), scan(lo, hi, 1+x.r.Intn(4)), wipe(lo, hi)}[x.r.Intn(6)])
	}
	return l
}

func (x *chaos) act(falls bool) api.Act {
	r := x.r
	n := len(x.c.Letters())
	mask := make([]byte, r.Intn(60))
	r.Read(mask)
	node := r.Intn(x.shards + 1)
	letter := 0
	if n > 0 && r.Intn(3) == 0 {
		letter = r.Intn(n)
	}
	switch p := r.Intn(100); {
	case p < 14:
		return begin(1+r.Intn(4), x.ops()...)
	case p < 17:
		return api.Act{Kind: api.Resend, A: 1 + r.Intn(4)}
	case p < 62:
		return api.Act{Kind: api.Deliver, B: letter}
	case p < 66:
		return api.Act{Kind: api.Drop, B: letter}
	case p < 71:
		return api.Act{Kind: api.Double, B: letter}
	case p < 72:
		return api.Act{Kind: api.Spoil, B: letter, Mask: string(mask)}
	case p < 86:
		return api.Act{Kind: api.Tick, A: node}
	case p < 88:
		return api.Act{Kind: api.Split, Key: x.keys[r.Intn(len(x.keys))]}
	case p < 92:
		return api.Act{Kind: api.Move, Key: x.keys[r.Intn(len(x.keys))], B: 1 + r.Intn(x.shards)}
	case p < 93:
		return round
	case !falls:
		return api.Act{Kind: api.Deliver, B: letter}
	case p < 95:
		return api.Act{Kind: api.Crash, A: node, Mask: string(mask)}
	case p < 98:
		return api.Act{Kind: api.Start, A: node}
	}
	return api.Act{Kind: api.Fuse, A: node, B: r.Intn(40)}
}

func (x *chaos) do(a api.Act) {
	x.t.Helper()
	x.log = append(x.log, a)
	x.c.Do(a)
	if e := owner.Check(x.c.Owners()); e != api.OK {
		x.t.Fatalf("the owners: %v", x.c.Owners())
	}
}

// settle starts all again, and lets rounds go by till there is nothing to do (P0.5).
func (x *chaos) settle() {
	x.t.Helper()
	for node := 0; node <= x.shards; node++ {
		x.do(api.Act{Kind: api.Fuse, A: node, B: -1})
		x.do(api.Act{Kind: api.Start, A: node})
	}
	for range 150 {
		x.do(round)
		if x.c.Idle() {
			break
		}
	}
	if !x.c.Idle() || x.c.Doubt() != 0 {
		x.t.Fatalf("in the end it is not idle, %d in doubt", x.c.Doubt())
	}
	want := replay(x.t, x.c)
	m, e := x.c.Map()
	if pairs(m) != pairs(want) || e != api.OK {
		x.t.Fatalf("Map: %q %d, want %q", pairs(m), e, pairs(want))
	}
	asked, answered := 0, 0
	for _, s := range x.c.Seen() {
		switch s.Kind {
		case api.Asked:
			asked++
		case api.Told:
			answered++
		}
	}
	if asked != answered {
		x.t.Fatalf("%d were asked for, %d answered", asked, answered)
	}
}

func newChaos(t *testing.T, seed int64) *chaos {
	r := rand.New(rand.NewSource(seed))
	shards := 1 + r.Intn(4)
	l := []api.Owner{{Shard: 1 + r.Intn(shards)}}
	for _, k := range []string{"d", "h", "m", "t"} {
		if r.Intn(2) == 0 {
			l = append(l, api.Owner{Lo: k, Shard: 1 + r.Intn(shards)})
		}
	}
	x := &chaos{t: t, r: r, c: made(t, shards, l), shards: shards}
	n := []int{3, 12, 40}[r.Intn(3)]
	for range n {
		x.keys = append(x.keys, string(rune('a'+r.Intn(26)))+[]string{"", "a", "b", "c"}[r.Intn(4)])
	}
	return x
}

const chaosSeeds = 250

func TestP0_1P0_2P0_5Chaos(t *testing.T) {
	committed, moved := 0, 0
	for seed := range int64(chaosSeeds) {
		x := newChaos(t, seed)
		owners := len(x.c.Owners())
		for range 3 {
			for range 120 {
				x.do(x.act(seed%3 > 0))
			}
			if seed%5 > 0 {
				replay(t, x.c)
			}
		}
		x.settle()
		for _, s := range x.c.Seen() {
			if s.Kind == api.Decided {
				committed++
			}
		}
		if len(x.c.Owners()) != owners {
			moved++
		}
	}
	if committed < 1000 || moved < 20 {
		t.Errorf("%d were committed, %d times the owners changed", committed, moved)
	}
}

func TestP0_5Settles(t *testing.T) {
	// Longer ones, with rounds between: many transactions on the same keys, and moves that come to their end.
	for seed := range int64(40) {
		x := newChaos(t, 1000+seed)
		for range 6 {
			for range 80 {
				x.do(x.act(true))
			}
			x.settle()
			x.do(api.Act{Kind: api.Move, Key: x.keys[0], B: 1 + x.r.Intn(x.shards)})
			for c := 1; c <= 4; c++ {
				x.do(begin(c, x.ops()...))
			}
		}
		x.settle()
	}
}

func TestP0_3Moves(t *testing.T) {
	// Nothing is asked for: then no step of a split or a move changes the map, whatever falls.
	for seed := range int64(80) {
		x := newChaos(t, 2000+seed)
		for range 10 {
			x.do(begin(1, x.ops()...))
			x.do(begin(2, x.ops()...))
			x.do(round)
		}
		x.settle()
		want, _ := x.c.Map()
		for range 300 {
			a := x.act(true)
			if a.Kind == api.Begin {
				a = round
			}
			x.do(a)
			if m, e := x.c.Map(); e == api.OK && pairs(m) != pairs(want) {
				t.Fatalf("seed %d: behind %v: %q, want %q", seed, a, pairs(m), pairs(want))
			}
		}
		x.settle()
	}
}

func TestP22_4OneAnswer(t *testing.T) {
	for seed := range int64(10) {
		x := newChaos(t, 3000+seed)
		for range 200 {
			x.do(x.act(true))
		}
		y := newChaos(t, 3000+seed)
		for _, a := range x.log {
			y.do(a)
		}
		if !reflect.DeepEqual(x.c.Seen(), y.c.Seen()) || !reflect.DeepEqual(x.c.Letters(), y.c.Letters()) {
			t.Fatal("the same acts have another end")
		}
	}
}
