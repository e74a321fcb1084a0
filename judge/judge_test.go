package judge_test

import (
	"math/rand"
	"slices"
	"testing"

	"sumpter/api"
	"sumpter/judge"
	"sumpter/op"
)

func get(k string) api.Op    { return api.Op{Kind: api.Get, Key: k} }
func put(k, v string) api.Op { return api.Op{Kind: api.Put, Key: k, Value: v} }

func asked(c int, r uint64, l ...api.Op) api.Seen {
	return api.Seen{Kind: api.Asked, Client: c, Req: r, Ops: l}
}

func decided(c int, r uint64) api.Seen { return api.Seen{Kind: api.Decided, Client: c, Req: r} }

func committed(c int, r uint64, l ...api.Result) api.Seen {
	return api.Seen{Kind: api.Told, Client: c, Req: r, Code: api.Committed, Results: l}
}

func aborted(c int, r uint64, l ...api.Result) api.Seen {
	return api.Seen{Kind: api.Told, Client: c, Req: r, Code: api.Aborted, Results: l}
}

func seen(l ...api.Seen) []api.Seen { return l }

var (
	none = api.Result{}
	x    = api.Result{Found: true, Value: "x"}
)

func TestP23_1Judge(t *testing.T) {
	a := asked(1, 1, put("a", "x"))
	long := asked(1, 1, get("a"), get("a"), get("a"), get("a"), get("a"))
	scan := asked(1, 1, put("a", "x"), put("b", "y"), api.Op{Kind: api.Scan, Most: 4}, get("a"))
	all := api.Result{Pairs: []api.Pair{{Key: "a", Value: "x"}, {Key: "b", Value: "y"}}}
	for i, c := range []struct {
		l  []api.Seen
		at int
		e  api.Errno
	}{
		{nil, -1, api.OK}, {seen(a), -1, api.OK}, {seen(a, decided(1, 1)), -1, api.OK}, {seen(a, decided(1, 1), committed(1, 1, none)), -1, api.OK}, {seen(a, aborted(1, 1)), -1, api.OK},
		{seen(scan, decided(1, 1), committed(1, 1, none, none, all, x)), -1, api.OK},
		{seen(a, api.Seen{}), 1, api.ErrArg}, {seen(api.Seen{Kind: 4, Client: 1}), 0, api.ErrArg}, {seen(api.Seen{Kind: -1, Client: 1}), 0, api.ErrArg},
		{seen(asked(0, 1, get("a"))), 0, api.ErrArg}, {seen(asked(5, 1, get("a"))), 0, api.ErrArg}, {seen(decided(5, 1)), 0, api.ErrArg}, {seen(aborted(-1, 1)), 0, api.ErrArg}, {seen(asked(4, 1, get("a"))), -1, api.OK},
		{seen(asked(1, 1)), 0, api.ErrArg}, {seen(long), 0, api.ErrArg}, {seen(asked(1, 1, get(""))), 0, api.ErrArg}, {seen(a, asked(1, 1)), 1, api.ErrArg},
		{seen(api.Seen{Kind: api.Told, Client: 1, Req: 1}), 0, api.ErrArg}, {seen(api.Seen{Kind: api.Told, Client: 1, Req: 1, Code: api.Yes}), 0, api.ErrArg},
		{seen(a, a), 1, api.ErrTwice}, {seen(a, asked(1, 2, get("a")), asked(2, 1, get("a")), asked(1, 1, get("b"))), 3, api.ErrTwice}, {seen(a, decided(1, 1), decided(1, 1)), 2, api.ErrTwice},
		{seen(a, decided(1, 1), committed(1, 1, none), committed(1, 1, x)), 3, api.ErrTwice}, {seen(a, aborted(1, 1), aborted(1, 1)), 2, api.ErrTwice}, {seen(a, aborted(1, 1), committed(1, 1)), 2, api.ErrTwice}, {seen(a, decided(1, 1), committed(1, 1, none), a), 3, api.ErrTwice}, {seen(a, decided(1, 1), committed(1, 1, none), decided(1, 1)), 3, api.ErrTwice},
		{seen(committed(1, 1, none), a), 0, api.ErrNone}, {seen(a, decided(1, 2)), 1, api.ErrNone}, {seen(a, decided(2, 1)), 1, api.ErrNone}, {seen(aborted(1, 1)), 0, api.ErrNone},
		{seen(a, aborted(1, 1), decided(1, 1)), 2, api.ErrState}, {seen(a, committed(1, 1, none)), 1, api.ErrState}, {seen(a, decided(1, 1), aborted(1, 1)), 2, api.ErrState}, {seen(a, decided(1, 1), aborted(1, 1, none)), 2, api.ErrState},
		{seen(a, decided(1, 1), committed(1, 1)), 2, api.ErrForm}, {seen(a, decided(1, 1), committed(1, 1, none, none)), 2, api.ErrForm}, {seen(a, decided(1, 1), committed(1, 1, x)), 2, api.ErrForm}, {seen(a, decided(1, 1), committed(1, 1, api.Result{Value: "x"})), 2, api.ErrForm}, {seen(a, aborted(1, 1, none)), 1, api.ErrForm},
		{seen(scan, decided(1, 1), committed(1, 1, none, none, api.Result{Pairs: all.Pairs[:1]}, x)), 2, api.ErrForm}, {seen(scan, decided(1, 1), committed(1, 1, none, none, all, none)), 2, api.ErrForm},
		// In the order of the Decideds.
		{seen(a, asked(2, 1, get("a")), decided(2, 1), decided(1, 1), committed(2, 1, none), committed(1, 1, none)), -1, api.OK},
		{seen(a, asked(2, 1, get("a")), decided(2, 1), decided(1, 1), committed(2, 1, x)), 4, api.ErrForm},
		{seen(a, asked(2, 1, get("a")), decided(1, 1), decided(2, 1), committed(2, 1, x)), -1, api.OK},
		{seen(a, decided(1, 1), asked(1, 2, put("a", "y")), decided(1, 2), committed(1, 1, none), asked(2, 7, get("a")), decided(2, 7), committed(2, 7, x)), 7, api.ErrForm},
	} {
		at, e := judge.Judge(c.l)
		m, f := judge.Replay(c.l)
		if at != c.at || e != c.e || f != c.e || e != api.OK && m != nil {
			t.Errorf("%d: Judge: %d %d, Replay: %d; want %d %d", i, at, e, f, c.at, c.e)
		}
	}
}

func TestP23_2Replay(t *testing.T) {
	l := seen(asked(1, 1, put("a", "x"), put("c", "1")), decided(1, 1), committed(1, 1, none, none), asked(1, 2, put("b", "n")), aborted(1, 2), asked(2, 1, api.Op{Kind: api.Del, Key: "c"}, put("d", "4")), decided(2, 1), asked(3, 1, put("q", "")))
	m, e := judge.Replay(l)
	if !slices.Equal(m, []api.Pair{{Key: "a", Value: "x"}, {Key: "d", Value: "4"}}) || e != api.OK {
		t.Errorf("Replay: %v %d", m, e)
	}
	if m, e := judge.Replay(nil); len(m) != 0 || e != api.OK {
		t.Errorf("Replay of nothing: %v %d", m, e)
	}
}

func TestP23_3Follows(t *testing.T) {
	r := rand.New(rand.NewSource(1))
	for range 300 {
		var l []api.Seen
		var m []api.Pair
		type open struct {
			c       int
			r       uint64
			ops     []api.Op
			results []api.Result
			state   int
		}
		var all []*open
		next := map[int]uint64{}
		for range 40 {
			if len(all) == 0 || r.Intn(3) == 0 {
				c := 1 + r.Intn(4)
				next[c]++
				k := string(rune('a' + r.Intn(4)))
				o := &open{c: c, r: next[c], ops: []api.Op{get(k), put(k, string(rune('0'+r.Intn(9)))), {Kind: api.Scan, Most: 3}}}
				all = append(all, o)
				l = append(l, asked(o.c, o.r, o.ops...))
				continue
			}
			o := all[r.Intn(len(all))]
			switch o.state {
			case 0:
				if r.Intn(4) == 0 {
					o.state = 2
					l = append(l, aborted(o.c, o.r))
					continue
				}
				o.state = 1
				m, o.results, _ = op.Apply(m, o.ops)
				l = append(l, decided(o.c, o.r))
			case 1:
				o.state = 2
				l = append(l, committed(o.c, o.r, o.results...))
			}
		}
		if at, e := judge.Judge(l); at != -1 || e != api.OK {
			t.Fatalf("Judge: %d %d", at, e)
		}
		if got, e := judge.Replay(l); !slices.Equal(got, m) || e != api.OK {
			t.Fatalf("Replay: %v, want %v", got, m)
		}
		n := r.Intn(len(l) + 1)
		if at, e := judge.Judge(l[:n]); at != -1 || e != api.OK {
			t.Fatalf("Judge of a beginning: %d %d", at, e)
		}
		for _, o := range all {
			if o.state == 0 {
				l = slices.DeleteFunc(l, func(s api.Seen) bool { return s.Client == o.c && s.Req == o.r })
			}
		}
		if at, e := judge.Judge(l); at != -1 || e != api.OK {
			t.Fatalf("Judge without those that are asked alone: %d %d", at, e)
		}
		if got, _ := judge.Replay(l); !slices.Equal(got, m) {
			t.Fatal("the map is another one")
		}
	}
}
