package node_test

import (
	"bytes"
	"fmt"
	"math/rand"
	"slices"
	"strings"
	"testing"

	"sumpter/api"
	"sumpter/node"
	"sumpter/octet"
)

func put(n uint64, k, v string) api.Entry {
	return api.Entry{Seq: n, Op: api.Op{Kind: api.Put, Key: k, Value: v}}
}

func del(n uint64, k string) api.Entry {
	return api.Entry{Seq: n, Op: api.Op{Kind: api.Del, Key: k}}
}

func wipe(n uint64, lo, hi string) api.Entry {
	return api.Entry{Seq: n, Op: api.Op{Kind: api.Clear, Lo: lo, Hi: hi}}
}

func leaf(l ...string) api.Node {
	n := api.Node{Leaf: true}
	for _, s := range l {
		n.Pairs = append(n.Pairs, api.Pair{Key: s, Value: s})
	}
	return n
}

// stem has as many kids as buffers, with numbers from 2 on, and the pivots m, n, ..
func stem(buffers ...[]api.Entry) api.Node {
	n := api.Node{Buffers: buffers}
	for i := range buffers {
		n.Kids = append(n.Kids, i+2)
		if i > 0 {
			n.Pivots = append(n.Pivots, string(rune('m'+i-1)))
		}
	}
	return n
}

func with(n api.Node, f func(n *api.Node)) api.Node {
	n.Kids, n.Pivots = slices.Clone(n.Kids), slices.Clone(n.Pivots)
	f(&n)
	return n
}

var two = stem([]api.Entry{put(1, "a", "x")}, nil)

type wrongNode struct {
	n api.Node
	e api.Errno
}

func wrongs() []wrongNode {
	return []wrongNode{
		{api.Node{}, api.ErrNode},
		{with(leaf("a"), func(n *api.Node) { n.Kids = []int{1} }), api.ErrNode},
		{with(leaf("a"), func(n *api.Node) { n.Pivots = []string{"a"} }), api.ErrNode},
		{with(leaf("b", "a"), func(n *api.Node) { n.Buffers = make([][]api.Entry, 1) }), api.ErrNode},
		{with(leaf("a"), func(n *api.Node) { n.Kids, n.Pivots = []int{1}, []string{"a"} }), api.ErrNode},
		{with(leaf("a"), func(n *api.Node) { n.Kids, n.Buffers = []int{1}, make([][]api.Entry, 1) }), api.ErrNode},
		{with(leaf("a"), func(n *api.Node) { n.Pivots, n.Buffers = []string{"a"}, make([][]api.Entry, 1) }), api.ErrNode},
		{leaf("b", "a"), api.ErrArg}, {leaf(""), api.ErrKey}, {leaf(strings.Repeat("k", 13)), api.ErrKey},
		{api.Node{Leaf: true, Pairs: []api.Pair{{Key: "a", Value: strings.Repeat("v", 17)}}}, api.ErrLong},
		{with(two, func(n *api.Node) { n.Pairs = []api.Pair{{Key: "a"}} }), api.ErrNode},
		{stem(nil), api.ErrNode}, {stem(make([][]api.Entry, 9)...), api.ErrNode},
		{with(two, func(n *api.Node) { n.Pivots = nil }), api.ErrNode}, {with(two, func(n *api.Node) { n.Pivots = []string{"m", "n"} }), api.ErrNode},
		{with(two, func(n *api.Node) { n.Buffers = n.Buffers[:1] }), api.ErrNode}, {with(two, func(n *api.Node) { n.Buffers = make([][]api.Entry, 3) }), api.ErrNode},
		{with(two, func(n *api.Node) { n.Kids[1] = 0 }), api.ErrNode}, {with(two, func(n *api.Node) { n.Kids[0] = -1 }), api.ErrNode}, {with(two, func(n *api.Node) { n.Kids[0] = 1 << 31 }), api.ErrNode},
		{with(two, func(n *api.Node) { n.Pivots[0] = "" }), api.ErrNode}, {with(two, func(n *api.Node) { n.Pivots[0] = strings.Repeat("p", 13) }), api.ErrNode},
		{with(stem(nil, nil, nil), func(n *api.Node) { n.Pivots[1] = "m" }), api.ErrNode}, {with(stem(nil, nil, nil), func(n *api.Node) { n.Pivots[1] = "a" }), api.ErrNode},
		{stem([]api.Entry{put(1, "z", "")}, []api.Entry{{}}), api.ErrOp}, {stem([]api.Entry{put(2, "a", ""), put(2, "b", "")}, nil), api.ErrArg}, {stem(nil, []api.Entry{put(1, "", "")}), api.ErrKey},
		{stem([]api.Entry{put(1, "a", strings.Repeat("v", 17))}, []api.Entry{{}}), api.ErrLong}, {stem([]api.Entry{wipe(1, "b", "a")}, nil), api.ErrRange},
		{stem([]api.Entry{put(1, "m", "")}, nil), api.ErrNode}, {stem(nil, []api.Entry{put(1, "a", "x")}), api.ErrNode}, {stem(nil, []api.Entry{del(1, "lz")}), api.ErrNode},
		{stem([]api.Entry{wipe(1, "a", "ma")}, nil), api.ErrNode}, {stem([]api.Entry{wipe(1, "a", "")}, nil), api.ErrNode}, {stem(nil, []api.Entry{wipe(1, "", "")}), api.ErrNode}, {stem(nil, []api.Entry{wipe(1, "m", "n"), put(2, "n", "")}, nil), api.ErrNode},
	}
}

func rights() []api.Node {
	return []api.Node{
		leaf(), leaf("a"), leaf("a", "b", "c"), leaf("\x00", strings.Repeat("\xff", 12)), two, stem(nil, nil), stem(make([][]api.Entry, 8)...),
		with(two, func(n *api.Node) { n.Kids = []int{1, 1<<31 - 1} }), with(two, func(n *api.Node) { n.Kids = []int{7, 7} }),
		stem([]api.Entry{wipe(1, "", "m"), put(2, "lz", ""), del(3, "\x00")}, []api.Entry{wipe(1, "m", "n"), put(300, "m", "q")}, []api.Entry{wipe(1<<64-1, "n", "")}),
	}
}

func TestP13_1Check(t *testing.T) {
	for i, x := range wrongs() {
		if e := node.Check(x.n); e != x.e {
			t.Errorf("%d: Check: %d, want %d", i, e, x.e)
		}
		b, e := node.Encode(x.n)
		n, f := node.Size(x.n)
		if b != nil || n != 0 || e != x.e || f != x.e {
			t.Errorf("%d: Encode, Size: %d %d, want %d", i, e, f, x.e)
		}
	}
	for i, n := range rights() {
		if e := node.Check(n); e != api.OK {
			t.Errorf("%d: Check: %d", i, e)
		}
	}
}

// plain is a node's bytes, as the chapter says.
func plain(n api.Node) []byte {
	var b []byte
	num := func(n int) { b = append(b, octet.Num(uint64(n))...) }
	text := func(s string) { b = append(b, octet.Text(s)...) }
	if n.Leaf {
		b = []byte{1}
		num(len(n.Pairs))
		for _, p := range n.Pairs {
			text(p.Key)
			text(p.Value)
		}
		return b
	}
	b = []byte{2}
	num(len(n.Kids))
	for _, k := range n.Kids {
		num(k)
	}
	for _, p := range n.Pivots {
		text(p)
	}
	for _, l := range n.Buffers {
		num(len(l))
		for _, x := range l {
			b = append(b, octet.Num(x.Seq)...)
			b = append(b, byte(x.Op.Kind))
			switch x.Op.Kind {
			case api.Put:
				text(x.Op.Key)
				text(x.Op.Value)
			case api.Del:
				text(x.Op.Key)
			case api.Clear:
				text(x.Op.Lo)
				text(x.Op.Hi)
			}
		}
	}
	return b
}

func same(a, b api.Node) bool {
	return a.Leaf == b.Leaf && slices.Equal(a.Pairs, b.Pairs) && slices.Equal(a.Kids, b.Kids) && slices.Equal(a.Pivots, b.Pivots) &&
		slices.EqualFunc(a.Buffers, b.Buffers, func(x, y []api.Entry) bool { return slices.Equal(x, y) })
}

func TestP13_2Encode(t *testing.T) {
	for s, n := range map[string]api.Node{"010101610131": {Leaf: true, Pairs: []api.Pair{{Key: "a", Value: "1"}}}, "02020203016d010102016101780" + "0": two} {
		if b, e := node.Encode(n); fmt.Sprintf("%x", b) != s || e != api.OK {
			t.Errorf("Encode: %x %d, want %s", b, e, s)
		}
	}
	for i, n := range rights() {
		want := plain(n)
		b, e := node.Encode(n)
		size, f := node.Size(n)
		if !bytes.Equal(b, want) || size != len(want) || e != api.OK || f != api.OK {
			t.Errorf("%d: Encode: %x %d, want %x", i, b, e, want)
		}
		if back, e := node.Decode(b); !same(back, n) || e != api.OK {
			t.Errorf("%d: Decode: %v %d", i, back, e)
		}
	}
	long := api.Node{Leaf: true}
	for i := range 17 {
		long.Pairs = append(long.Pairs, api.Pair{Key: fmt.Sprintf("key%09d", i), Value: strings.Repeat("v", 13)})
	}
	if size, e := node.Size(long); size != 2+17*27 || e != api.OK {
		t.Errorf("Size: %d %d", size, e)
	}
	long.Pairs[0].Value = strings.Repeat("v", 15)
	long.Pairs[1].Value = strings.Repeat("v", 16)
	long.Pairs[2].Value = strings.Repeat("v", 16)
	long.Pairs[3].Value = strings.Repeat("v", 16)
	long.Pairs[4].Value = strings.Repeat("v", 16)
	long.Pairs[5].Value = strings.Repeat("v", 16)
	for want := 478; want <= 482; want++ {
		size, e := node.Size(long)
		b, f := node.Encode(long)
		if size != want || e != api.OK || (f == api.OK) != (want <= 480) || want > 480 && (b != nil || f != api.ErrLong) {
			t.Errorf("Size: %d %d, Encode: %d", size, e, f)
		}
		long.Pairs[want-478+6].Value += "v"
	}
}

func TestP13_2Decode(t *testing.T) {
	for s, want := range map[string]api.Errno{
		"": api.ErrShort, "\x00": api.ErrForm, "\x03": api.ErrForm, "\x01": api.ErrShort, "\x02": api.ErrShort,
		"\x01\x00":                                        api.OK,
		"\x01\x00\x00":                                    api.ErrForm,
		"\x01\x80":                                        api.ErrShort,
		"\x01\x80\x00":                                    api.ErrForm,
		"\x01\xe0\x03":                                    api.ErrShort, // 480 pairs
		"\x01\xe1\x03":                                    api.ErrForm,  // 481 pairs
		"\x01\x01\xe0\x03":                                api.ErrShort,
		"\x01\x01\xe1\x03":                                api.ErrForm,
		"\x01\x01\x01a":                                   api.ErrShort,
		"\x01\x01\x01a\x81":                               api.ErrShort,
		"\x01\x01\x01a\x81\x00":                           api.ErrForm,
		"\x01\x01\x00\x00":                                api.ErrKey,
		"\x01\x01\x00\x00\x00":                            api.ErrForm,
		"\x01\x02\x01b\x00\x01a":                          api.ErrShort,
		"\x02\x00":                                        api.ErrNode,
		"\x02\x00\x00":                                    api.ErrForm,
		"\x02\x01":                                        api.ErrShort,
		"\x02\x01\x05":                                    api.ErrShort,
		"\x02\x01\x05\x00":                                api.ErrNode,
		"\x02\x02\x00\x01\x01m":                           api.ErrShort,
		"\x02\x02\x00\x01\x01m\x00\x00":                   api.ErrNode,
		"\x02\x02\x02\x03\x01m\x01\x01":                   api.ErrShort,
		"\x02\x02\x02\x03\x01m\x01\x01\x00":               api.ErrForm,
		"\x02\x02\x02\x03\x01m\x01\x01\x01":               api.ErrForm,
		"\x02\x02\x02\x03\x01m\x01\x01\x04":               api.ErrForm,
		"\x02\x02\x02\x03\x01m\x01\x01\x06":               api.ErrForm,
		"\x02\x02\x02\x03\x01m\x01\x01\x03\x01a":          api.ErrShort,
		"\x02\x02\x02\x03\x01m\x01\x01\x03\x01a\x00":      api.OK,
		"\x02\x02\x02\x03\x01m\x00\x01\x01\x03\x01a":      api.ErrNode,
		"\x02\x02\x02\x03\x01m\x01\x01\x05\x00\x01m\x00":  api.OK,
		"\x02\x02\x02\x03\x01m\x01\x01\x05\x01b\x01a\x00": api.ErrRange,
		"\x02\x02\x02\x03\x01m\x02\x01\x03\x01a\x01\x03\x01a\x00":           api.ErrArg,
		"\x02\x02\x02\x80\x80\x80\x80\x08":                                  api.ErrForm, // a kid 2^31
		"\x02\x02\x02\xff\xff\xff\xff\x07":                                  api.ErrShort,
		"\x02\x02\x02\x03\x01m\x01\xff\xff\xff\xff\xff\xff\xff\xff\xff\x02": api.ErrForm,
		"\x02\x02\x02\x03\x01m\xe1\x03":                                     api.ErrForm,
		"\x02\xe1\x03":                                                      api.ErrForm,
	} {
		n, e := node.Decode([]byte(s))
		if e != want || e != api.OK && !same(n, api.Node{}) {
			t.Errorf("Decode(%x): %d, want %d", s, e, want)
		}
	}
	long := append([]byte{1, 0}, make([]byte, 478)...)
	if _, e := node.Decode(long); e != api.ErrForm {
		t.Errorf("Decode of 480 bytes: %d", e)
	}
	if _, e := node.Decode(append(long, 0)); e != api.ErrLong {
		t.Errorf("Decode of 481 bytes: %d", e)
	}
}

func TestP13_3Child(t *testing.T) {
	n := stem(nil, nil, nil)
	for k, want := range map[string]int{"": 0, "a": 0, "lz": 0, "m": 1, "ma": 1, "n": 2, "z": 2} {
		if i := node.Child(n, k); i != want {
			t.Errorf("Child(%q): %d", k, i)
		}
	}
	if i := node.Child(api.Node{Pivots: []string{"z", "a", "b", "x"}}, "c"); i != 2 {
		t.Errorf("Child of no node: %d", i)
	}
	if i := node.Child(with(leaf("a"), func(n *api.Node) { n.Pivots = []string{"a"} }), "c"); i != 0 {
		t.Errorf("Child of a leaf: %d", i)
	}
}

func TestP13_4Follows(t *testing.T) {
	r := rand.New(rand.NewSource(1))
	var seeds [][]byte
	for _, n := range rights() {
		b, _ := node.Encode(n)
		seeds = append(seeds, b)
		for i := range b {
			if _, e := node.Decode(b[:i]); e != api.ErrShort {
				t.Errorf("Decode of a beginning of %x: %d", b, e)
			}
		}
		if _, e := node.Decode(append(bytes.Clone(b), 0)); e != api.ErrForm {
			t.Errorf("Decode of more: %d", e)
		}
	}
	taken := 0
	for range 50000 {
		b := bytes.Clone(seeds[r.Intn(len(seeds))])
		for range 1 + r.Intn(3) {
			b[r.Intn(len(b))] = byte(r.Intn(8))
		}
		n, e := node.Decode(b)
		if e != api.OK {
			continue
		}
		taken++
		if c, e := node.Encode(n); !bytes.Equal(c, b) || e != api.OK {
			t.Fatalf("Decode takes %x, Encode writes %x", b, c)
		}
	}
	if taken == 0 {
		t.Error("nothing was taken")
	}
	b := seeds[1]
	n, _ := node.Decode(b)
	b[3] = 'z'
	if n.Pairs[0].Key != "a" {
		t.Error("what was read shares memory")
	}
}
