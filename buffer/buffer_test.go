package buffer_test

import (
	"math/rand"
	"slices"
	"strings"
	"testing"

	"sumpter/api"
	"sumpter/buffer"
	"sumpter/op"
	"sumpter/span"
)

func put(n uint64, k, v string) api.Entry {
	return api.Entry{Seq: n, Op: api.Op{Kind: api.Put, Key: k, Value: v}}
}

func del(n uint64, k string) api.Entry {
	return api.Entry{Seq: n, Op: api.Op{Kind: api.Del, Key: k}}
}

func wipe(n uint64, lo, hi string) api.Entry {
	return api.Entry{Seq: n, Op: api.Op{Kind: api.Clear, Lo: lo, Hi: hi}}
}

func get(n uint64, k string) api.Entry {
	return api.Entry{Seq: n, Op: api.Op{Kind: api.Get, Key: k}}
}

var example = []api.Entry{put(1, "a", "x"), wipe(2, "a", "c"), put(3, "b", "y")}

func isErr(t *testing.T, got, want api.Errno) {
	t.Helper()
	if got != want {
		t.Errorf("%d, want %d", got, want)
	}
}

var wrong = []struct {
	l []api.Entry
	e api.Errno
}{
	{[]api.Entry{{}}, api.ErrOp}, {[]api.Entry{get(1, "a")}, api.ErrOp}, {[]api.Entry{get(1, "")}, api.ErrKey}, {[]api.Entry{put(1, "", "")}, api.ErrKey},
	{[]api.Entry{put(1, "a", strings.Repeat("v", 17))}, api.ErrLong}, {[]api.Entry{wipe(1, "b", "a")}, api.ErrRange}, {[]api.Entry{{Seq: 1, Op: api.Op{Kind: api.Scan, Most: 9}}}, api.ErrArg},
	{[]api.Entry{put(1, "a", ""), put(1, "b", "")}, api.ErrArg}, {[]api.Entry{put(2, "a", ""), put(1, "b", "")}, api.ErrArg},
	{[]api.Entry{put(2, "a", ""), put(1, "", "")}, api.ErrKey}, {[]api.Entry{put(2, "a", ""), put(1, "b", ""), put(1, "", "")}, api.ErrArg}, {[]api.Entry{put(2, "a", ""), get(1, "b")}, api.ErrOp},
}

func TestP12_1Check(t *testing.T) {
	for i, x := range wrong {
		if e := buffer.Check(x.l); e != x.e {
			t.Errorf("%d: Check: %d, want %d", i, e, x.e)
		}
	}
	for i, l := range [][]api.Entry{nil, example, {del(0, "a")}, {put(0, "a", ""), wipe(1<<64-1, "", "")}} {
		if e := buffer.Check(l); e != api.OK {
			t.Errorf("%d: Check: %d", i, e)
		}
	}
}

func TestP12_2Find(t *testing.T) {
	for i, x := range []struct {
		l         []api.Entry
		key       string
		value     string
		is, known bool
	}{
		{example, "a", "", false, true}, {example, "b", "y", true, true}, {example, "bb", "", false, true}, {example, "c", "", false, false}, {example, "d", "", false, false},
		{nil, "a", "", false, false}, {[]api.Entry{put(9, "a", ""), put(1, "a", "last")}, "a", "last", true, true}, {[]api.Entry{put(1, "a", "x"), del(1, "a")}, "a", "", false, true},
		{[]api.Entry{put(1, "a", "x"), get(2, "a"), {}, {Seq: 3, Op: api.Op{Kind: api.Scan}}, wipe(4, "b", "a"), del(5, "b")}, "a", "x", true, true},
		{[]api.Entry{wipe(1, "", "")}, "a", "", false, true}, {[]api.Entry{wipe(1, "", "")}, strings.Repeat("k", 13), "", false, false}, {[]api.Entry{wipe(1, "", "")}, "", "", false, false},
	} {
		if v, is, known := buffer.Find(x.l, x.key); v != x.value || is != x.is || known != x.known {
			t.Errorf("%d: Find(%q): %q %v %v", i, x.key, v, is, known)
		}
	}
}

func TestP12_3Apply(t *testing.T) {
	m, e := buffer.Apply([]api.Pair{{Key: "a", Value: "1"}, {Key: "bb"}, {Key: "c", Value: "3"}}, example)
	if !slices.Equal(m, []api.Pair{{Key: "b", Value: "y"}, {Key: "c", Value: "3"}}) || e != api.OK {
		t.Errorf("Apply: %v %d", m, e)
	}
	m, e = buffer.Apply([]api.Pair{{Key: "b"}, {Key: "a"}}, wrong[0].l)
	if m != nil || e != api.ErrArg {
		t.Errorf("Apply to no map: %d", e)
	}
	for i, x := range wrong {
		m, e := buffer.Apply(nil, x.l)
		l, f := buffer.Squeeze(x.l)
		p, g := buffer.Part(x.l, []string{""})
		a, h := buffer.Merge(x.l, []api.Entry{{}})
		b, j := buffer.Merge(example, x.l)
		if m != nil || l != nil || p != nil || a != nil || b != nil || e != x.e || f != x.e || g != x.e || h != x.e || j != x.e {
			t.Errorf("%d: %d %d %d %d %d, want %d", i, e, f, g, h, j, x.e)
		}
	}
}

func TestP12_3Squeeze(t *testing.T) {
	for i, x := range []struct{ l, want []api.Entry }{
		{nil, nil}, {example, example[1:]}, {[]api.Entry{put(1, "a", ""), put(2, "a", "")}, []api.Entry{put(2, "a", "")}},
		{[]api.Entry{del(1, "a"), put(2, "b", ""), del(3, "a")}, []api.Entry{put(2, "b", ""), del(3, "a")}},
		{[]api.Entry{wipe(1, "b", "c"), wipe(2, "a", "d")}, []api.Entry{wipe(2, "a", "d")}},
		{[]api.Entry{wipe(1, "a", "d"), wipe(2, "a", "d")}, []api.Entry{wipe(2, "a", "d")}},
		{[]api.Entry{wipe(1, "a", "d"), wipe(2, "a", "c"), wipe(3, "b", "d")}, []api.Entry{wipe(1, "a", "d"), wipe(2, "a", "c"), wipe(3, "b", "d")}},
		{[]api.Entry{wipe(1, "a", ""), wipe(2, "", "")}, []api.Entry{wipe(2, "", "")}},
		{[]api.Entry{put(1, "c", ""), wipe(2, "a", "c")}, []api.Entry{put(1, "c", ""), wipe(2, "a", "c")}},
	} {
		if got, e := buffer.Squeeze(x.l); !slices.Equal(got, x.want) || e != api.OK {
			t.Errorf("%d: Squeeze: %v %d", i, got, e)
		}
	}
}

func TestP12_4Part(t *testing.T) {
	l, _ := buffer.Squeeze(example)
	p, e := buffer.Part(l, []string{"b"})
	if len(p) != 2 || !slices.Equal(p[0], []api.Entry{wipe(2, "a", "b")}) || !slices.Equal(p[1], []api.Entry{wipe(2, "b", "c"), put(3, "b", "y")}) || e != api.OK {
		t.Errorf("Part: %v %d", p, e)
	}
	p, e = buffer.Part([]api.Entry{wipe(1, "", ""), put(2, "m", "x"), del(3, "c"), wipe(4, "c", "g")}, []string{"c", "g", "m"})
	want := [][]api.Entry{{wipe(1, "", "c")}, {wipe(1, "c", "g"), del(3, "c"), wipe(4, "c", "g")}, {wipe(1, "g", "m")}, {wipe(1, "m", ""), put(2, "m", "x")}}
	if !slices.EqualFunc(p, want, func(a, b []api.Entry) bool { return slices.Equal(a, b) }) || e != api.OK {
		t.Errorf("Part: %v %d", p, e)
	}
	if p, e := buffer.Part(nil, []string{"c", "g"}); len(p) != 3 || len(p[0])+len(p[1])+len(p[2]) != 0 || e != api.OK {
		t.Errorf("Part of nothing: %v %d", p, e)
	}
	if p, e := buffer.Part(example, nil); len(p) != 1 || !slices.Equal(p[0], example) || e != api.OK {
		t.Errorf("Part without pivots: %v %d", p, e)
	}
	for _, pivots := range [][]string{{""}, {"b", "b"}, {"c", "b"}, {"b", strings.Repeat("x", 13)}} {
		if p, e := buffer.Part(example, pivots); p != nil || e != api.ErrKey {
			t.Errorf("Part at %q: %d", pivots, e)
		}
	}
}

func TestP12_4Merge(t *testing.T) {
	m, e := buffer.Merge([]api.Entry{put(1, "a", ""), put(5, "b", "")}, []api.Entry{put(2, "c", ""), del(7, "d"), wipe(9, "", "")})
	if !slices.Equal(m, []api.Entry{put(1, "a", ""), put(2, "c", ""), put(5, "b", ""), del(7, "d"), wipe(9, "", "")}) || e != api.OK {
		t.Errorf("Merge: %v %d", m, e)
	}
	for _, x := range [][2][]api.Entry{{nil, example}, {example, nil}} {
		if m, e := buffer.Merge(x[0], x[1]); !slices.Equal(m, example) || e != api.OK {
			t.Errorf("Merge with nothing: %v %d", m, e)
		}
	}
	if m, e := buffer.Merge(nil, nil); len(m) != 0 || e != api.OK {
		t.Errorf("Merge of nothing: %v", m)
	}
	m, e = buffer.Merge(example, []api.Entry{put(0, "q", ""), put(3, "r", "")})
	if m != nil {
		t.Error("Merge of the same number")
	}
	isErr(t, e, api.ErrArg)
}

func some(r *rand.Rand, n int) []api.Entry {
	keys := []string{"a", "b", "c", "d", "e", "f"}
	var l []api.Entry
	seq := uint64(0)
	for range n {
		seq += 1 + uint64(r.Intn(3))
		k := r.Intn(6)
		switch r.Intn(3) {
		case 0:
			l = append(l, put(seq, keys[k], keys[r.Intn(6)]))
		case 1:
			l = append(l, del(seq, keys[k]))
		case 2:
			x := wipe(seq, keys[k], "")
			if r.Intn(4) == 0 {
				x.Op.Lo = ""
			}
			if k < 5 && r.Intn(4) > 0 {
				x.Op.Hi = keys[k+1+r.Intn(5-k)]
			}
			l = append(l, x)
		}
	}
	return l
}

func TestP12_5Follows(t *testing.T) {
	r := rand.New(rand.NewSource(1))
	m := []api.Pair{{Key: "a", Value: "1"}, {Key: "c", Value: "3"}, {Key: "e", Value: "5"}}
	for range 5000 {
		l := some(r, r.Intn(12))
		was := slices.Clone(l)
		var ops []api.Op
		for _, x := range l {
			ops = append(ops, x.Op)
		}
		want, _, _ := op.Apply(m, ops)
		got, _ := buffer.Apply(m, l)
		sq, _ := buffer.Squeeze(l)
		squeezed, _ := buffer.Apply(m, sq)
		if !slices.Equal(got, want) || !slices.Equal(squeezed, want) {
			t.Fatalf("%v: %v, squeezed %v, want %v", l, got, squeezed, want)
		}
		pivots := []string{"b", "d"}
		parts, _ := buffer.Part(l, pivots)
		var whole []api.Pair
		for i, p := range parts {
			in := []api.Range{{Hi: "b"}, {Lo: "b", Hi: "d"}, {Lo: "d"}}[i]
			var mine []api.Pair
			for _, x := range m {
				if span.Has(in, x.Key) {
					mine = append(mine, x)
				}
			}
			got, e := buffer.Apply(mine, p)
			if e != api.OK {
				t.Fatalf("a part is no buffer: %d", e)
			}
			whole = append(whole, got...)
		}
		if !slices.Equal(whole, want) {
			t.Fatalf("%v: the parts make %v, want %v", l, whole, want)
		}
		for _, k := range []string{"a", "b", "c", "d", "e", "f"} {
			there := func(m []api.Pair) (string, bool) {
				for _, p := range m {
					if p.Key == k {
						return p.Value, true
					}
				}
				return "", false
			}
			v, is, known := buffer.Find(l, k)
			wv, wis := there(want)
			if !known {
				v, is = there(m)
			}
			if v != wv || is != wis {
				t.Fatalf("%v: Find(%q): %q %v %v", l, k, v, is, known)
			}
		}
		if !slices.Equal(l, was) {
			t.Fatal("an argument was changed")
		}
	}
}

func TestP12_5Overtaken(t *testing.T) {
	r := rand.New(rand.NewSource(2))
	for range 5000 {
		l := some(r, r.Intn(10))
		var want []api.Entry
		for i, x := range l {
			over := false
			for _, y := range l[i+1:] {
				in := api.Range{Lo: y.Op.Lo, Hi: y.Op.Hi}
				switch {
				case x.Op.Kind == api.Clear:
					over = over || y.Op.Kind == api.Clear && span.Covers(in, api.Range{Lo: x.Op.Lo, Hi: x.Op.Hi})
				case y.Op.Kind == api.Clear:
					over = over || span.Has(in, x.Op.Key)
				default:
					over = over || x.Op.Key == y.Op.Key
				}
			}
			if !over {
				want = append(want, x)
			}
		}
		if got, _ := buffer.Squeeze(l); !slices.Equal(got, want) {
			t.Fatalf("Squeeze(%v): %v, want %v", l, got, want)
		}
	}
}
