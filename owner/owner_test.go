package owner_test

import (
	"math/rand"
	"slices"
	"strings"
	"testing"

	"sumpter/api"
	"sumpter/op"
	"sumpter/owner"
	"sumpter/span"
)

func get(k string) api.Op              { return api.Op{Kind: api.Get, Key: k} }
func put(k, v string) api.Op           { return api.Op{Kind: api.Put, Key: k, Value: v} }
func del(k string) api.Op              { return api.Op{Kind: api.Del, Key: k} }
func scan(lo, hi string, n int) api.Op { return api.Op{Kind: api.Scan, Lo: lo, Hi: hi, Most: n} }
func wipe(lo, hi string) api.Op        { return api.Op{Kind: api.Clear, Lo: lo, Hi: hi} }

var (
	two    = []api.Owner{{Lo: "", Shard: 1}, {Lo: "m", Shard: 2}}
	six    = []api.Owner{{Lo: "", Shard: 3}, {Lo: "c", Shard: 1}, {Lo: "f", Shard: 3}, {Lo: "m", Shard: 1}, {Lo: "p", Shard: 1}, {Lo: "t", Shard: 4}}
	wrongs = [][]api.Owner{nil, {{Lo: "a", Shard: 1}}, {{Lo: "", Shard: 0}}, {{Lo: "", Shard: 5}}, {{Lo: "", Shard: -1}}, {{Lo: "", Shard: 1}, {Lo: "", Shard: 2}}, {{Lo: "", Shard: 1}, {Lo: "m", Shard: 2}, {Lo: "m", Shard: 1}}, {{Lo: "", Shard: 1}, {Lo: "m", Shard: 2}, {Lo: "g", Shard: 1}}, {{Lo: "", Shard: 1}, {Lo: strings.Repeat("k", 13), Shard: 2}}, append(slices.Clone(six), api.Owner{Lo: "z", Shard: 1})}
)

func same(a, b []owner.Part) bool {
	return slices.EqualFunc(a, b, func(x, y owner.Part) bool {
		return x.Shard == y.Shard && slices.Equal(x.Ops, y.Ops) && slices.Equal(x.From, y.From)
	})
}

func alike(a, b []api.Result) bool {
	return slices.EqualFunc(a, b, func(x, y api.Result) bool {
		return x.Found == y.Found && x.Value == y.Value && slices.Equal(x.Pairs, y.Pairs)
	})
}

func TestP17_1Check(t *testing.T) {
	for i, l := range wrongs {
		if e := owner.Check(l); e != api.ErrOwner {
			t.Errorf("%d: Check: %d", i, e)
		}
		_, e1 := owner.Find(l, "")
		_, e2 := owner.RangeOf(l, 9)
		s, e3 := owner.Split(l, "")
		g, e4 := owner.Give(l, 9, 9)
		c, e5 := owner.Cut(l, nil)
		if e1 != api.ErrOwner || e2 != api.ErrOwner || e3 != api.ErrOwner || e4 != api.ErrOwner || e5 != api.ErrOwner || s != nil || g != nil || c != nil || owner.Owns(l, 1, api.Range{Lo: "x", Hi: "y"}) {
			t.Errorf("%d: %d %d %d %d %d", i, e1, e2, e3, e4, e5)
		}
	}
	for i, l := range [][]api.Owner{two, six, {{Lo: "", Shard: 4}}, {{Lo: "", Shard: 1}, {Lo: "\x00", Shard: 1}}} {
		if e := owner.Check(l); e != api.OK {
			t.Errorf("%d: Check: %d", i, e)
		}
	}
}

func TestP17_2Find(t *testing.T) {
	for k, want := range map[string]int{"\x00": 0, "a": 0, "bz": 0, "c": 1, "ca": 1, "f": 2, "lz": 2, "m": 3, "p": 4, "t": 5, "\xff": 5} {
		if i, e := owner.Find(six, k); i != want || e != api.OK {
			t.Errorf("Find(%q): %d %d", k, i, e)
		}
	}
	for _, k := range []string{"", strings.Repeat("k", 13)} {
		if i, e := owner.Find(six, k); i != 0 || e != api.ErrKey {
			t.Errorf("Find(%q): %d %d", k, i, e)
		}
	}
	for i, want := range []api.Range{{Hi: "c"}, {Lo: "c", Hi: "f"}, {Lo: "f", Hi: "m"}, {Lo: "m", Hi: "p"}, {Lo: "p", Hi: "t"}, {Lo: "t"}} {
		if r, e := owner.RangeOf(six, i); r != want || e != api.OK {
			t.Errorf("RangeOf(%d): %q %d", i, r, e)
		}
	}
	for _, i := range []int{-1, 6, 1 << 40, -1 << 63} {
		if r, e := owner.RangeOf(six, i); r != (api.Range{}) || e != api.ErrNone {
			t.Errorf("RangeOf(%d): %q %d", i, r, e)
		}
	}
	for _, x := range []struct {
		shard int
		in    api.Range
		want  bool
	}{{1, api.Range{Lo: "c", Hi: "f"}, true}, {1, api.Range{Lo: "d", Hi: "e"}, true}, {1, api.Range{Lo: "m", Hi: "q"}, false}, {1, api.Range{Lo: "m", Hi: "p"}, true}, {3, api.Range{Hi: "c"}, true}, {3, api.Range{Hi: "d"}, false}, {3, api.Range{}, false}, {4, api.Range{Lo: "t"}, true}, {4, api.Range{Lo: "s"}, false}, {2, api.Range{Lo: "t"}, false}, {0, api.Range{Lo: "t"}, false}, {1, api.Range{Lo: "e", Hi: "d"}, false}} {
		if got := owner.Owns(six, x.shard, x.in); got != x.want {
			t.Errorf("Owns(%d, %q): %v", x.shard, x.in, got)
		}
	}
	if !owner.Owns([]api.Owner{{Shard: 2}}, 2, api.Range{}) {
		t.Error("Owns all")
	}
}

func TestP17_3Split(t *testing.T) {
	was := slices.Clone(two)
	l, e := owner.Split(two, "g")
	if !slices.Equal(l, []api.Owner{{Lo: "", Shard: 1}, {Lo: "g", Shard: 1}, {Lo: "m", Shard: 2}}) || e != api.OK {
		t.Errorf("Split: %v %d", l, e)
	}
	l, e = owner.Split(two, "z")
	if !slices.Equal(l, []api.Owner{{Lo: "", Shard: 1}, {Lo: "m", Shard: 2}, {Lo: "z", Shard: 2}}) || e != api.OK {
		t.Errorf("Split: %v %d", l, e)
	}
	for _, x := range []struct {
		l []api.Owner
		k string
		e api.Errno
	}{{two, "m", api.ErrTwice}, {six, "m", api.ErrTwice}, {six, "n", api.ErrMany}, {six, "", api.ErrKey}, {two, strings.Repeat("k", 13), api.ErrKey}} {
		if l, e := owner.Split(x.l, x.k); l != nil || e != x.e {
			t.Errorf("Split at %q: %d, want %d", x.k, e, x.e)
		}
	}
	l, e = owner.Give(two, 1, 4)
	if !slices.Equal(l, []api.Owner{{Lo: "", Shard: 1}, {Lo: "m", Shard: 4}}) || e != api.OK {
		t.Errorf("Give: %v %d", l, e)
	}
	l[0].Shard = 3
	for _, x := range []struct {
		i, shard int
		e        api.Errno
	}{{2, 1, api.ErrNone}, {-1, 9, api.ErrNone}, {0, 0, api.ErrArg}, {0, 5, api.ErrArg}, {1, -1, api.ErrArg}} {
		if l, e := owner.Give(two, x.i, x.shard); l != nil || e != x.e {
			t.Errorf("Give(%d, %d): %d, want %d", x.i, x.shard, e, x.e)
		}
	}
	if !slices.Equal(two, was) {
		t.Error("an argument was changed")
	}
}

func TestP17_4Cut(t *testing.T) {
	p, e := owner.Cut(two, []api.Op{put("z", "1"), scan("", "", 3)})
	want := []owner.Part{{Shard: 1, Ops: []api.Op{scan("", "m", 3)}, From: []int{1}}, {Shard: 2, Ops: []api.Op{put("z", "1"), scan("m", "", 3)}, From: []int{0, 1}}}
	if !same(p, want) || e != api.OK {
		t.Errorf("Cut: %v %d", p, e)
	}
	p, e = owner.Cut(six, []api.Op{wipe("b", "q"), get("g"), scan("d", "e", 1), del("c")})
	want = []owner.Part{
		{Shard: 1, Ops: []api.Op{wipe("c", "f"), wipe("m", "p"), wipe("p", "q"), scan("d", "e", 1), del("c")}, From: []int{0, 0, 0, 2, 3}},
		{Shard: 3, Ops: []api.Op{wipe("b", "c"), wipe("f", "m"), get("g")}, From: []int{0, 0, 1}},
	}
	if !same(p, want) || e != api.OK {
		t.Errorf("Cut: %v %d", p, e)
	}
	for _, l := range [][]api.Op{nil, {get("a"), get("a"), get("a"), get("a"), get("a")}, {{}}, {get("")}, {scan("", "", 5)}, {wipe("b", "a")}, {put("a", strings.Repeat("v", 17))}} {
		if p, e := owner.Cut(six, l); p != nil || e != op.Check(l) || e == api.OK {
			t.Errorf("Cut(%v): %d", l, e)
		}
	}
}

func TestP17_5Gather(t *testing.T) {
	pairs := func(s string) api.Result {
		var r api.Result
		for _, k := range strings.Fields(s) {
			r.Pairs = append(r.Pairs, api.Pair{Key: k[:1], Value: k[1:]})
		}
		return r
	}
	ops := []api.Op{scan("", "", 3), get("a"), {Kind: 77}, scan("", "", 0), scan("", "", -5), scan("", "", 100)}
	parts := []owner.Part{{Ops: make([]api.Op, 5), From: []int{0, 1, 1, 3, 5}}, {Shard: 9, Ops: make([]api.Op, 4), From: []int{5, 0, 4, 5}}}
	results := [][]api.Result{{pairs("d1 b2 b3"), {Found: true, Value: "x"}, {Found: true, Value: "y"}, pairs("a1"), pairs("q1 a2")}, {pairs("q2 q3"), pairs("b4 a5"), pairs("a1"), pairs("a6")}}
	got, e := owner.Gather(ops, parts, results)
	want := []api.Result{pairs("a5 b2 b3"), {Found: true, Value: "x"}, {}, {}, {}, pairs("a2 a6 q1 q2 q3")}
	if !alike(got, want) || e != api.OK {
		t.Errorf("Gather: %v %d, want %v", got, e, want)
	}
	got, e = owner.Gather([]api.Op{put("a", ""), scan("", "", 4)}, nil, nil)
	if !alike(got, make([]api.Result, 2)) || e != api.OK {
		t.Errorf("Gather of nothing: %v %d", got, e)
	}
	one := []api.Op{get("a")}
	for i, x := range []struct {
		p []owner.Part
		r [][]api.Result
	}{{[]owner.Part{{}}, nil}, {nil, make([][]api.Result, 1)}, {[]owner.Part{{Ops: one}}, [][]api.Result{{{}}}}, {[]owner.Part{{From: []int{0}}}, [][]api.Result{{{}}}}, {[]owner.Part{{Ops: one, From: []int{0}}}, [][]api.Result{{}}}, {[]owner.Part{{Ops: one, From: []int{1}}}, [][]api.Result{{{}}}}, {[]owner.Part{{Ops: one, From: []int{-1}}}, [][]api.Result{{{}}}}} {
		if got, e := owner.Gather(one, x.p, x.r); got != nil || e != api.ErrArg {
			t.Errorf("%d: Gather: %d", i, e)
		}
	}
	in := [][]api.Result{{pairs("a1 b2")}}
	p := []owner.Part{{Ops: one, From: []int{0}}}
	for _, o := range []api.Op{get("a"), scan("", "", 2)} {
		got, _ = owner.Gather([]api.Op{o}, p, in)
		got[0].Pairs[0].Value = "changed"
		if in[0][0].Pairs[0].Value != "1" {
			t.Error("an answer shares memory")
		}
	}
}

func TestP17_6Follows(t *testing.T) {
	r := rand.New(rand.NewSource(1))
	keys := []string{"a", "b", "c", "d", "e", "f", "g", "h", "m", "n", "p", "q", "t", "z"}
	for range 3000 {
		l := []api.Owner{{Lo: "", Shard: 1 + r.Intn(4)}}
		for range r.Intn(8) {
			if n, e := owner.Split(l, keys[r.Intn(len(keys))]); e == api.OK {
				l = n
			}
			l, _ = owner.Give(l, r.Intn(len(l)), 1+r.Intn(4))
			if owner.Check(l) != api.OK {
				t.Fatal("no owners")
			}
		}
		for _, k := range keys {
			n := 0
			for i := range l {
				if in, _ := owner.RangeOf(l, i); span.Has(in, k) {
					n++
				}
			}
			if n != 1 {
				t.Fatalf("%q has %d owners", k, n)
			}
		}
		var m []api.Pair
		for _, k := range keys {
			if r.Intn(2) == 0 {
				m = append(m, api.Pair{Key: k, Value: k})
			}
		}
		var ops []api.Op
		for range 1 + r.Intn(4) {
			i := r.Intn(len(keys))
			hi := ""
			if i+1 < len(keys) && r.Intn(3) > 0 {
				hi = keys[i+1+r.Intn(len(keys)-i-1)]
			}
			ops = append(ops, []api.Op{get(keys[i]), put(keys[i], "new"), del(keys[i]), scan(keys[i], hi, 1+r.Intn(4)), scan("", hi, 4), wipe(keys[i], hi)}[r.Intn(6)])
		}
		parts, e := owner.Cut(l, ops)
		if e != api.OK {
			t.Fatal(e)
		}
		var results [][]api.Result
		var whole []api.Pair
		for shard := 1; shard <= 4; shard++ {
			var mine []api.Pair
			for _, p := range m {
				if i, _ := owner.Find(l, p.Key); l[i].Shard == shard {
					mine = append(mine, p)
				}
			}
			for _, p := range parts {
				if p.Shard == shard {
					var res []api.Result
					mine, res, _ = op.Apply(mine, p.Ops)
					results = append(results, res)
				}
			}
			whole = append(whole, mine...)
		}
		slices.SortFunc(whole, func(a, b api.Pair) int { return strings.Compare(a.Key, b.Key) })
		want, told, _ := op.Apply(m, ops)
		got, e := owner.Gather(ops, parts, results)
		if !slices.Equal(whole, want) || !alike(got, told) || e != api.OK {
			t.Fatalf("%v by %v on %v: %v, %v %d; want %v, %v", ops, l, m, whole, got, e, want, told)
		}
	}
}
