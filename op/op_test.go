package op_test

import (
	"math/rand"
	"reflect"
	"slices"
	"strings"
	"testing"

	"sumpter/api"
	"sumpter/op"
	"sumpter/span"
)

func get(k string) api.Op              { return api.Op{Kind: api.Get, Key: k} }
func put(k, v string) api.Op           { return api.Op{Kind: api.Put, Key: k, Value: v} }
func del(k string) api.Op              { return api.Op{Kind: api.Del, Key: k} }
func scan(lo, hi string, n int) api.Op { return api.Op{Kind: api.Scan, Lo: lo, Hi: hi, Most: n} }
func wipe(lo, hi string) api.Op        { return api.Op{Kind: api.Clear, Lo: lo, Hi: hi} }

var (
	key13 = strings.Repeat("k", 13)
	val16 = strings.Repeat("v", 16)
	val17 = strings.Repeat("v", 17)
)

func TestP4_1CheckOp(t *testing.T) {
	for i, x := range []struct {
		o api.Op
		e api.Errno
	}{
		{get("a"), api.OK}, {put("a", ""), api.OK}, {put(key13[1:], val16), api.OK}, {del("\x00"), api.OK}, {scan("", "", 1), api.OK}, {scan("a", "b", 4), api.OK}, {wipe("", ""), api.OK}, {wipe("", "\x00"), api.OK},
		{api.Op{}, api.ErrOp}, {api.Op{Kind: 6}, api.ErrOp}, {api.Op{Kind: -1}, api.ErrOp}, {api.Op{Kind: 1 << 40, Key: "a"}, api.ErrOp},
		{api.Op{Kind: api.Get, Key: "a", Value: "x"}, api.ErrOp}, {api.Op{Kind: api.Get, Key: "a", Lo: "x"}, api.ErrOp}, {api.Op{Kind: api.Get, Key: "a", Hi: "x"}, api.ErrOp}, {api.Op{Kind: api.Get, Key: "a", Most: 1}, api.ErrOp},
		{api.Op{Kind: api.Put, Key: "a", Lo: "x"}, api.ErrOp}, {api.Op{Kind: api.Put, Hi: "x"}, api.ErrOp}, {api.Op{Kind: api.Put, Key: "a", Most: -1}, api.ErrOp},
		{api.Op{Kind: api.Del, Key: "a", Value: "x"}, api.ErrOp}, {api.Op{Kind: api.Del, Most: 1}, api.ErrOp},
		{api.Op{Kind: api.Scan, Key: "a", Most: 1}, api.ErrOp}, {api.Op{Kind: api.Scan, Value: "a", Most: 1}, api.ErrOp},
		{api.Op{Kind: api.Clear, Key: "a"}, api.ErrOp}, {api.Op{Kind: api.Clear, Value: "a"}, api.ErrOp}, {api.Op{Kind: api.Clear, Most: 1}, api.ErrOp},
		{get(""), api.ErrKey}, {get(key13), api.ErrKey}, {put("", val17), api.ErrKey}, {del(""), api.ErrKey}, {del(key13), api.ErrKey},
		{put("a", val17), api.ErrLong},
		{wipe("b", "a"), api.ErrRange}, {wipe("a", "a"), api.ErrRange}, {wipe(key13, ""), api.ErrRange}, {scan("b", "a", 0), api.ErrRange}, {scan("", key13, 1), api.ErrRange},
		{scan("", "", 0), api.ErrArg}, {scan("", "", 5), api.ErrArg}, {scan("a", "b", -1), api.ErrArg},
	} {
		if e := op.CheckOp(x.o); e != x.e {
			t.Errorf("%d: CheckOp(%v): %d, want %d", i, x.o, e, x.e)
		}
	}
}

func TestP4_1Check(t *testing.T) {
	for i, x := range []struct {
		l []api.Op
		e api.Errno
	}{
		{nil, api.ErrMany}, {[]api.Op{get("a")}, api.OK}, {[]api.Op{get("a"), get("a"), get("a"), get("a")}, api.OK},
		{[]api.Op{get("a"), get("a"), get("a"), get("a"), get("a")}, api.ErrMany}, {[]api.Op{{}, {}, {}, {}, {}}, api.ErrMany},
		{[]api.Op{get("a"), get(""), {}}, api.ErrKey}, {[]api.Op{get("a"), {}, get("")}, api.ErrOp},
	} {
		if e := op.Check(x.l); e != x.e {
			t.Errorf("%d: Check: %d, want %d", i, e, x.e)
		}
	}
	for i, x := range []struct {
		m []api.Pair
		e api.Errno
	}{
		{nil, api.OK}, {[]api.Pair{{Key: "a", Value: val16}, {Key: "a\x00"}, {Key: "b"}}, api.OK}, {[]api.Pair{{Key: ""}}, api.ErrKey}, {[]api.Pair{{Key: key13, Value: val17}}, api.ErrKey},
		{[]api.Pair{{Key: "a", Value: val17}}, api.ErrLong}, {[]api.Pair{{Key: "a"}, {Key: "a"}}, api.ErrArg}, {[]api.Pair{{Key: "b"}, {Key: "a", Value: val17}}, api.ErrLong},
		{[]api.Pair{{Key: "b"}, {Key: "a"}, {Key: ""}}, api.ErrArg}, {[]api.Pair{{Key: "b"}, {Key: ""}, {Key: "a"}}, api.ErrKey},
	} {
		if e := op.CheckMap(x.m); e != x.e {
			t.Errorf("%d: CheckMap: %d, want %d", i, e, x.e)
		}
	}
}

func TestP4_2Span(t *testing.T) {
	for kind := -1; kind < 8; kind++ {
		want := kind == api.Put || kind == api.Del || kind == api.Clear
		if op.Writes(api.Op{Kind: kind, Lo: "z"}) != want {
			t.Errorf("Writes of kind %d: %v", kind, !want)
		}
	}
	good := []api.Op{get("a"), put("b", "x"), del(key13[1:]), scan("", "m", 2), wipe("c", ""), get("a")}
	want := []api.Lock{{Range: api.Range{Lo: "a", Hi: "a\x00"}}, {Range: api.Range{Lo: "b", Hi: "b\x00"}, Write: true}, {Range: api.Range{Lo: "kkkkkkkkkkkk", Hi: "kkkkkkkkkkkl"}, Write: true}, {Range: api.Range{Hi: "m"}}, {Range: api.Range{Lo: "c"}, Write: true}, {Range: api.Range{Lo: "a", Hi: "a\x00"}}}
	for i, o := range good {
		if r, e := op.Span(o); r != want[i].Range || e != api.OK {
			t.Errorf("Span(%v): %q %d", o, r, e)
		}
	}
	if l, e := op.Locks(good); !slices.Equal(l, want) || e != api.OK {
		t.Errorf("Locks: %v %d", l, e)
	}
	if l, e := op.Locks(nil); len(l) != 0 || e != api.OK {
		t.Errorf("Locks of nothing: %v %d", l, e)
	}
	if l, e := op.Locks(append(slices.Clone(good), get(""), api.Op{})); l != nil || e != api.ErrKey {
		t.Errorf("Locks with a wrong one: %v %d", l, e)
	}
	for _, o := range []api.Op{{}, get(""), put("a", val17), wipe("b", "a"), scan("", "", 9)} {
		if r, e := op.Span(o); r != (api.Range{}) || e != op.CheckOp(o) || e == api.OK {
			t.Errorf("Span(%v): %q %d", o, r, e)
		}
	}
}

// model does operations to a Go map.
func model(m []api.Pair, l []api.Op) ([]api.Pair, []api.Result) {
	g := map[string]string{}
	for _, p := range m {
		g[p.Key] = p.Value
	}
	pairs := func(r api.Range) []api.Pair {
		var out []api.Pair
		for k, v := range g {
			if span.Has(r, k) {
				out = append(out, api.Pair{Key: k, Value: v})
			}
		}
		slices.SortFunc(out, func(a, b api.Pair) int { return strings.Compare(a.Key, b.Key) })
		return out
	}
	var res []api.Result
	for _, o := range l {
		var r api.Result
		switch in := (api.Range{Lo: o.Lo, Hi: o.Hi}); o.Kind {
		case api.Get:
			r.Value, r.Found = g[o.Key]
		case api.Put:
			g[o.Key] = o.Value
		case api.Del:
			delete(g, o.Key)
		case api.Scan:
			r.Pairs = pairs(in)
			r.Pairs = r.Pairs[:min(len(r.Pairs), o.Most)]
		case api.Clear:
			for _, p := range pairs(in) {
				delete(g, p.Key)
			}
		}
		res = append(res, r)
	}
	return pairs(api.Range{}), res
}

func some(r *rand.Rand) api.Op {
	keys := []string{"a", "b", "c", "c\x00", "d", "e", "\xff"}
	k := keys[r.Intn(len(keys))]
	lo, hi := "", ""
	if r.Intn(3) > 0 {
		lo = k
	}
	if h := keys[r.Intn(len(keys))]; h > lo && r.Intn(3) > 0 {
		hi = h
	}
	return []api.Op{get(k), put(k, keys[r.Intn(7)]), put(k, ""), del(k), scan(lo, hi, 1+r.Intn(4)), wipe(lo, hi)}[r.Intn(6)]
}

func alike(a, b []api.Result) bool {
	return slices.EqualFunc(a, b, func(x, y api.Result) bool {
		return x.Found == y.Found && x.Value == y.Value && slices.Equal(x.Pairs, y.Pairs)
	})
}

func TestP4_3Apply(t *testing.T) {
	m, res, e := op.Apply(nil, []api.Op{put("a", "1"), put("b", "2"), del("a"), scan("", "", 2), get("a")})
	if !slices.Equal(m, []api.Pair{{Key: "b", Value: "2"}}) || !alike(res, []api.Result{{}, {}, {}, {Pairs: m}, {}}) || e != api.OK {
		t.Errorf("the example: %v %v %d", m, res, e)
	}
	r := rand.New(rand.NewSource(1))
	var was []api.Pair
	for i := 0; i < 3000; i++ {
		var l []api.Op
		for range r.Intn(9) {
			l = append(l, some(r))
		}
		before, ops := slices.Clone(was), slices.Clone(l)
		got, res, e := op.Apply(was, l)
		want, told := model(was, l)
		if !slices.Equal(got, want) || !alike(res, told) || e != api.OK {
			t.Fatalf("Apply(%v, %v): %v %v %d, want %v %v", was, l, got, res, e, want, told)
		}
		if !slices.Equal(was, before) || !slices.Equal(l, ops) {
			t.Fatal("Apply changed its arguments")
		}
		was = got
	}
	for i, x := range []struct {
		m []api.Pair
		l []api.Op
		e api.Errno
	}{{[]api.Pair{{Key: "b"}, {Key: "a"}}, []api.Op{{}}, api.ErrArg}, {[]api.Pair{{}}, nil, api.ErrKey}, {[]api.Pair{{Key: "a", Value: val17}}, nil, api.ErrLong}, {nil, []api.Op{put("a", "1"), scan("", "", 5), get("")}, api.ErrArg}} {
		if m, res, e := op.Apply(x.m, x.l); m != nil || res != nil || e != x.e {
			t.Errorf("%d: wrong: %v %v %d", i, m, res, e)
		}
	}
}

func TestP4_3Memory(t *testing.T) {
	in := make([]api.Pair, 2, 8)
	in[0], in[1] = api.Pair{Key: "a", Value: "1"}, api.Pair{Key: "c", Value: "3"}
	m, res, _ := op.Apply(in, []api.Op{scan("", "", 4), scan("", "", 4)})
	m[0].Value = "x"
	res[0].Pairs[0].Value = "y"
	_ = append(m[:1:cap(m)], api.Pair{Key: "q"})
	if in[0].Value != "1" || in[1].Key != "c" || res[1].Pairs[0].Value != "1" || res[1].Pairs[1].Key != "c" {
		t.Error("answers share memory")
	}
	if room := in[:3]; room[2] != (api.Pair{}) {
		t.Error("the spare room was written to")
	}
	op.Apply(in, []api.Op{put("b", "2")})
	if !reflect.DeepEqual(in[:3], []api.Pair{{Key: "a", Value: "1"}, {Key: "c", Value: "3"}, {}}) {
		t.Error("the spare room was written to by Put")
	}
}

func TestP4_4Follows(t *testing.T) {
	r := rand.New(rand.NewSource(2))
	var m []api.Pair
	for i := 0; i < 5000; i++ {
		a, b := some(r), some(r)
		x, ra, _ := op.Apply(m, []api.Op{a, b})
		y, rb, _ := op.Apply(m, []api.Op{b, a})
		sa, _ := op.Span(a)
		sb, _ := op.Span(b)
		if _, meet := span.Meet(sa, sb); !meet || !op.Writes(a) && !op.Writes(b) {
			if !slices.Equal(x, y) || !alike(ra, []api.Result{rb[1], rb[0]}) {
				t.Fatalf("%v and %v on %v: their order matters", a, b, m)
			}
		}
		if !op.Writes(a) && !op.Writes(b) && !slices.Equal(x, m) {
			t.Fatalf("reading changes %v", m)
		}
		if op.CheckMap(x) != api.OK {
			t.Fatalf("no map: %v", x)
		}
		m = x
	}
}
