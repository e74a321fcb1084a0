package tree_test

import (
	"bytes"
	"fmt"
	"math/rand"
	"slices"
	"strings"
	"testing"

	"sumpter/api"
	"sumpter/buffer"
	"sumpter/node"
	"sumpter/op"
	"sumpter/span"
	"sumpter/tree"
)

// room keeps pages, and what was done to them.
type room struct {
	pages   map[int][]byte
	next    int
	written map[int]bool
	freed   []int
	left    int // Writes and Reads till ErrFull, ErrDown
	down    bool
}

func newRoom() *room {
	return &room{pages: map[int][]byte{}, next: 1, written: map[int]bool{}, left: 1 << 30}
}

func (r *room) Read(id int) ([]byte, api.Errno) {
	if r.down {
		return nil, api.ErrDown
	}
	b, ok := r.pages[id]
	if !ok {
		return nil, api.ErrPage
	}
	return bytes.Clone(b), api.OK
}

func (r *room) Write(b []byte) (int, api.Errno) {
	if r.left == 0 {
		return 0, api.ErrFull
	}
	r.left--
	id := r.next
	r.next++
	r.pages[id] = bytes.Clone(b)
	r.written[id] = true
	return id, api.OK
}

func (r *room) Free(id int) api.Errno {
	if _, ok := r.pages[id]; !ok || slices.Contains(r.freed, id) {
		return api.ErrPage
	}
	r.freed = append(r.freed, id)
	return api.OK
}

// add lays a node down as it is.
func (r *room) add(t *testing.T, n api.Node) int {
	t.Helper()
	b, e := node.Encode(n)
	if e != api.OK {
		t.Fatalf("Encode: %d", e)
	}
	id, _ := r.Write(b)
	return id
}

func put(n uint64, k, v string) api.Entry {
	return api.Entry{Seq: n, Op: api.Op{Kind: api.Put, Key: k, Value: v}}
}

func del(n uint64, k string) api.Entry {
	return api.Entry{Seq: n, Op: api.Op{Kind: api.Del, Key: k}}
}

func wipe(n uint64, lo, hi string) api.Entry {
	return api.Entry{Seq: n, Op: api.Op{Kind: api.Clear, Lo: lo, Hi: hi}}
}

func leaf(keys ...string) api.Node {
	n := api.Node{Leaf: true}
	for _, k := range keys {
		n.Pairs = append(n.Pairs, api.Pair{Key: k, Value: k})
	}
	return n
}

func all(t *testing.T, r *room, root int) []api.Pair {
	t.Helper()
	m, e := tree.Scan(r, root, api.Range{}, -1)
	if e != api.OK {
		t.Fatalf("Scan: %d", e)
	}
	return m
}

func sound(t *testing.T, r *room, root int, want []api.Pair) {
	t.Helper()
	if e := tree.Sound(r, root); e != api.OK {
		t.Fatalf("the tree is not sound: %d", e)
	}
	if m := all(t, r, root); !slices.Equal(m, want) {
		t.Fatalf("the map: %v, want %v", m, want)
	}
}

func pagesOf(t *testing.T, r *room, root int) []int {
	t.Helper()
	l, e := tree.Pages(r, root)
	if e != api.OK {
		t.Fatalf("Pages: %d", e)
	}
	return l
}

// grow puts entries into a tree, and looks at all that is promised of it.
func grow(t *testing.T, r *room, root int, m []api.Pair, l []api.Entry) (int, []api.Pair) {
	t.Helper()
	was := pagesOf(t, r, root)
	r.written, r.freed = map[int]bool{}, nil
	keep := slices.Clone(l)
	id, e := tree.Put(r, root, l)
	if e != api.OK {
		t.Fatalf("Put: %d", e)
	}
	if !slices.Equal(keep, l) {
		t.Fatal("an argument was changed")
	}
	want, e := buffer.Apply(m, l)
	if e != api.OK {
		t.Fatal(e)
	}
	sound(t, r, id, want)
	sound(t, r, root, m)
	now := pagesOf(t, r, id)
	if id == 0 && len(want) > 0 {
		t.Fatal("no tree of some pairs")
	}
	for _, p := range now {
		if !slices.Contains(was, p) && !r.written[p] {
			t.Fatalf("the page %d was not written", p)
		}
	}
	for _, p := range r.freed {
		if !slices.Contains(was, p) || slices.Contains(now, p) {
			t.Fatalf("the page %d was freed", p)
		}
	}
	for _, p := range was {
		if !slices.Contains(now, p) && !slices.Contains(r.freed, p) {
			t.Fatalf("the page %d was not freed", p)
		}
	}
	if len(now) > 1024 {
		t.Fatalf("%d pages", len(now))
	}
	return id, want
}

func TestP14_1Small(t *testing.T) {
	r := newRoom()
	root, e := tree.Put(r, 0, nil)
	if root != 0 || e != api.OK || len(r.written) != 0 {
		t.Errorf("Put of nothing: %d %d", root, e)
	}
	root, m := grow(t, r, 0, nil, []api.Entry{put(1, "a", "x")})
	if v, is, e := tree.Get(r, root, "a"); v != "x" || !is || e != api.OK {
		t.Errorf("Get: %q %v %d", v, is, e)
	}
	b, _ := r.Read(root)
	if n, e := node.Decode(b); !n.Leaf || e != api.OK {
		t.Error("the root is no leaf")
	}
	root, _ = grow(t, r, root, m, []api.Entry{wipe(2, "", "")})
	if m := all(t, r, root); len(m) != 0 {
		t.Errorf("behind Clear: %v", m)
	}
	for i, l := range [][]api.Entry{{{}}, {put(1, "", "")}, {put(2, "a", ""), put(2, "b", "")}, {{Seq: 1, Op: api.Op{Kind: api.Get, Key: "a"}}}, {put(1, "a", strings.Repeat("v", 17))}} {
		if id, e := tree.Put(r, 77, l); id != 0 || e != buffer.Check(l) || e == api.OK {
			t.Errorf("%d: Put: %d", i, e)
		}
	}
	for i, m := range [][]api.Pair{{{Key: "b"}, {Key: "a"}}, {{}}, {{Key: "a", Value: strings.Repeat("v", 17)}}} {
		if id, e := tree.Build(r, m); id != 0 || e != op.CheckMap(m) || e == api.OK {
			t.Errorf("%d: Build: %d", i, e)
		}
	}
}

func TestP14_1Errors(t *testing.T) {
	r := newRoom()
	var l []api.Entry
	for i := range 100 {
		l = append(l, put(uint64(i+1), fmt.Sprintf("key%06d", i), "0123456789abcdef"))
	}
	r.left = 3
	if id, e := tree.Put(r, 0, l); id != 0 || e != api.ErrFull {
		t.Errorf("Put into a full room: %d", e)
	}
	m, _ := buffer.Apply(nil, l)
	if id, e := tree.Build(r, m); id != 0 || e != api.ErrFull {
		t.Errorf("Build in a full room: %d", e)
	}
	r.left = 1 << 30
	root, _ := tree.Build(r, m)
	r.down = true
	if id, e := tree.Put(r, root, []api.Entry{put(101, "a", "")}); id != 0 || e != api.ErrDown {
		t.Errorf("Put of one that can't be read: %d", e)
	}
	if _, _, e := tree.Get(r, root, "a"); e != api.ErrDown {
		t.Errorf("Get: %d", e)
	}
	if _, e := tree.Scan(r, root, api.Range{}, 1); e != api.ErrDown {
		t.Errorf("Scan: %d", e)
	}
	if l, e := tree.Pages(r, root); l != nil || e != api.ErrDown {
		t.Errorf("Pages: %d", e)
	}
	if e := tree.Sound(r, root); e != api.ErrNode {
		t.Errorf("Sound: %d", e)
	}
	r.down = false
	r.pages[root] = []byte{9}
	_, e1 := tree.Put(r, root, []api.Entry{put(101, "a", "")})
	_, _, e2 := tree.Get(r, root, "a")
	_, e3 := tree.Scan(r, root, api.Range{}, 1)
	_, e4 := tree.Pages(r, root)
	if e1 != api.ErrForm || e2 != api.ErrForm || e3 != api.ErrForm || e4 != api.ErrForm || tree.Sound(r, root) != api.ErrNode {
		t.Errorf("bytes that are no node: %d %d %d %d", e1, e2, e3, e4)
	}
}

// keysOf are some keys, short or long, near one another or far.
func keysOf(r *rand.Rand) func() string {
	n := []int{5, 40, 300, 100000}[r.Intn(4)]
	form := []string{"%d", "%012d", "k%03d", "%08d"}[r.Intn(4)]
	return func() string {
		k := fmt.Sprintf(form, r.Intn(n))
		return k[:min(len(k), 12)]
	}
}

func entries(r *rand.Rand, seq *uint64, key func() string, n, clears int) []api.Entry {
	var l []api.Entry
	for range n {
		*seq += 1 + uint64(r.Intn(2))
		if r.Intn(50) == 0 {
			*seq += 1 << uint(r.Intn(40))
		}
		switch x := r.Intn(100); {
		case x < clears:
			lo, hi := key(), key()
			if lo > hi {
				lo, hi = hi, lo
			}
			if lo == hi || r.Intn(8) == 0 {
				hi = ""
			}
			if r.Intn(8) == 0 {
				lo = ""
			}
			l = append(l, wipe(*seq, lo, hi))
		case x < 35:
			l = append(l, del(*seq, key()))
		default:
			l = append(l, put(*seq, key(), strings.Repeat("v", r.Intn(17))))
		}
	}
	return l
}

func TestP14_1Put(t *testing.T) {
	r := rand.New(rand.NewSource(1))
	for range 120 {
		key := keysOf(r)
		rm := newRoom()
		var root int
		var m []api.Pair
		var seq uint64
		count, most, clears := 0, []int{1, 5, 40, 200}[r.Intn(4)], []int{0, 2, 10}[r.Intn(3)]
		if r.Intn(3) == 0 {
			l := entries(r, &seq, key, r.Intn(200), 0)
			m, _ = buffer.Apply(nil, l)
			root, _ = tree.Build(rm, m)
			count = len(m)
		}
		for step := 0; count < 500 && step < 60; step++ {
			l := entries(r, &seq, key, min(500-count, r.Intn(most+1)), clears)
			count += len(l)
			root, m = grow(t, rm, root, m, l)
		}
	}
}

func TestP14_1OneByOne(t *testing.T) {
	r := rand.New(rand.NewSource(2))
	for range 6 {
		rm := newRoom()
		var root int
		var m []api.Pair
		var seq uint64
		key := keysOf(r)
		for range 500 {
			root, m = grow(t, rm, root, m, entries(r, &seq, key, 1, 3))
		}
	}
}

func TestP14_1Lots(t *testing.T) {
	// Thousands of entries at once, that make many nodes, or take many away.
	r := rand.New(rand.NewSource(6))
	for range 6 {
		rm := newRoom()
		var root int
		var m []api.Pair
		var seq uint64
		n := []int{50, 700, 2000}[r.Intn(3)]
		key := func() string { return fmt.Sprintf("key%08d", r.Intn(n)) }
		for range 4 {
			root, m = grow(t, rm, root, m, entries(r, &seq, key, 1000+r.Intn(3000), []int{0, 1, 3}[r.Intn(3)]))
			var l []api.Entry
			for i, p := range m {
				seq++
				if i%10 > 0 {
					l = append(l, del(seq, p.Key))
				} else if len(p.Key) < 12 {
					l = append(l, put(seq, p.Key+"z", "new"))
				}
			}
			root, m = grow(t, rm, root, m, l)
		}
	}
}

func TestP14_1Vanish(t *testing.T) {
	// What is taken away from the beginning, from the end, or from within, takes nodes away; then others come.
	val := strings.Repeat("v", 16)
	key := func(i int) string { return fmt.Sprintf("key%09d", i) }
	for way := range 6 {
		for _, lot := range []int{1, 7, 40} {
			r := newRoom()
			var m []api.Pair
			for i := range 200 {
				m = append(m, api.Pair{Key: key(i), Value: val})
			}
			root, e := tree.Build(r, m)
			if e != api.OK {
				t.Fatal(e)
			}
			seq := uint64(0)
			var l []api.Entry
			add := func(x api.Entry) {
				l = append(l, x)
				if len(l) == lot {
					root, m = grow(t, r, root, m, l)
					l = nil
				}
			}
			for i := range 250 {
				seq++
				switch way {
				case 0:
					add(del(seq, key(i)))
				case 1:
					add(del(seq, key(199-i%200)))
				case 2:
					add(del(seq, key((i+100)%200)))
				case 3:
					if i%5 == 0 {
						add(wipe(seq, key(i%200), key(i%200+20)))
					} else {
						add(put(seq, key(300+i), val))
					}
				case 4:
					if i%40 == 39 {
						add(wipe(seq, "", key(i)))
					} else {
						add(put(seq, key(i*7%200), val))
					}
				case 5:
					if i%30 == 29 {
						add(wipe(seq, key(200-i%200), ""))
					} else {
						add(put(seq, key(i*11%300), val))
					}
				}
			}
			for i := range 100 {
				seq++
				add(put(seq, key(i*13%400), val))
			}
		}
	}
}

func TestP14_1Many(t *testing.T) {
	// More entries than 500, and few pages.
	r := rand.New(rand.NewSource(3))
	rm := newRoom()
	var root int
	var m []api.Pair
	var seq uint64
	key := func() string { return fmt.Sprintf("%05d", r.Intn(900)) }
	for range 60 {
		root, m = grow(t, rm, root, m, entries(r, &seq, key, 100, 1))
	}
	for len(m) > 0 {
		var l []api.Entry
		for range min(len(m), 150) {
			seq++
			i := r.Intn(len(m))
			l = append(l, del(seq, m[i].Key))
		}
		root, m = grow(t, rm, root, m, l)
	}
}

func TestP14_1Build(t *testing.T) {
	r := rand.New(rand.NewSource(4))
	for range 60 {
		var seq uint64
		m, _ := buffer.Apply(nil, entries(r, &seq, keysOf(r), []int{0, 1, 10, 100, 400}[r.Intn(5)], 0))
		rm := newRoom()
		root, e := tree.Build(rm, m)
		if e != api.OK || (root == 0) != (len(m) == 0) {
			t.Fatalf("Build: %d %d", root, e)
		}
		sound(t, rm, root, m)
		for _, p := range pagesOf(t, rm, root) {
			if !rm.written[p] {
				t.Fatal("a page was not written")
			}
		}
		if len(rm.freed) > 0 {
			t.Fatal("Build frees pages")
		}
	}
}

// handmade is a sound tree made by hand: an elder buffer above has lesser numbers than a younger one below.
func handmade(t *testing.T, r *room) (int, []api.Pair) {
	low := r.add(t, api.Node{Kids: []int{r.add(t, leaf("a", "b")), r.add(t, leaf("d", "e"))}, Pivots: []string{"c"}, Buffers: [][]api.Entry{{put(5, "b", "5")}, {del(6, "d")}}})
	high := r.add(t, api.Node{Kids: []int{r.add(t, leaf("m")), r.add(t, leaf("p", "q"))}, Pivots: []string{"n"}, Buffers: [][]api.Entry{nil, {wipe(9, "p", "q")}}})
	root := r.add(t, api.Node{Kids: []int{low, high}, Pivots: []string{"m"}, Buffers: [][]api.Entry{{put(2, "aa", "7"), put(4, "d", "8")}, {wipe(1, "m", "n"), put(3, "o", "3")}}})
	return root, []api.Pair{{Key: "a", Value: "a"}, {Key: "aa", Value: "7"}, {Key: "b", Value: "5"}, {Key: "d", Value: "8"}, {Key: "e", Value: "e"}, {Key: "o", Value: "3"}, {Key: "q", Value: "q"}}
}

func TestP14_2Get(t *testing.T) {
	r := newRoom()
	root, m := handmade(t, r)
	sound(t, r, root, m)
	g := map[string]string{}
	for _, p := range m {
		g[p.Key] = p.Value
	}
	for _, k := range []string{"a", "aa", "ab", "b", "c", "d", "e", "f", "l", "m", "n", "o", "p", "q", "r", "\x00", "\xff"} {
		want, there := g[k]
		if v, is, e := tree.Get(r, root, k); v != want || is != there || e != api.OK {
			t.Errorf("Get(%q): %q %v %d", k, v, is, e)
		}
	}
	for _, k := range []string{"", strings.Repeat("k", 13)} {
		if v, is, e := tree.Get(r, 999, k); v != "" || is || e != api.ErrKey {
			t.Errorf("Get(%q): %d", k, e)
		}
	}
	if v, is, e := tree.Get(r, 0, "a"); v != "" || is || e != api.OK {
		t.Errorf("Get of no tree: %d", e)
	}
	if v, is, e := tree.Get(r, 999, "a"); v != "" || is || e != api.ErrPage {
		t.Errorf("Get of no page: %d", e)
	}
	// It may be put into, too.
	now := m
	for i := range 100 {
		root, now = grow(t, r, root, now, []api.Entry{put(uint64(10+i), fmt.Sprintf("%c%d", 'a'+i%20, i), "0123456789")})
	}
}

func TestP14_2Scan(t *testing.T) {
	r := newRoom()
	root, m := handmade(t, r)
	ends := []string{"", "a", "aa", "b", "c", "d", "m", "n", "o", "q", "z"}
	for _, lo := range ends {
		for _, hi := range ends {
			for most := -2; most < 9; most++ {
				in := api.Range{Lo: lo, Hi: hi}
				got, e := tree.Scan(r, root, in, most)
				if span.Check(in) != api.OK {
					if got != nil || e != api.ErrRange {
						t.Errorf("Scan of %q: %d", in, e)
					}
					continue
				}
				var want []api.Pair
				for _, p := range m {
					if span.Has(in, p.Key) && (most < 0 || len(want) < most) {
						want = append(want, p)
					}
				}
				if !slices.Equal(got, want) || e != api.OK {
					t.Errorf("Scan(%q, %d): %v %d, want %v", in, most, got, e, want)
				}
			}
		}
	}
	small := r.add(t, leaf("a", "b", "c"))
	for most := range 5 {
		if got, e := tree.Scan(r, small, api.Range{}, most); len(got) != min(most, 3) || e != api.OK {
			t.Errorf("Scan of a leaf, %d: %v %d", most, got, e)
		}
	}
	if got, e := tree.Scan(r, 0, api.Range{}, -1); len(got) != 0 || e != api.OK {
		t.Errorf("Scan of no tree: %d", e)
	}
	if got, e := tree.Scan(r, 0, api.Range{Lo: "b", Hi: "a"}, -1); got != nil || e != api.ErrRange {
		t.Errorf("Scan of no range: %d", e)
	}
}

func TestP14_3Pages(t *testing.T) {
	r := newRoom()
	root, _ := handmade(t, r)
	if l, e := tree.Pages(r, root); !slices.Equal(l, []int{7, 3, 1, 2, 6, 4, 5}) || e != api.OK {
		t.Errorf("Pages: %v %d", l, e)
	}
	if l, e := tree.Pages(r, 0); len(l) != 0 || e != api.OK {
		t.Errorf("Pages of no tree: %v %d", l, e)
	}
	if l, e := tree.Pages(r, -5); l != nil || e != api.ErrPage {
		t.Errorf("Pages of no page: %d", e)
	}
	// A page that stands below itself: each way ends.
	loop := r.next
	r.add(t, api.Node{Kids: []int{loop, loop}, Pivots: []string{"m"}, Buffers: [][]api.Entry{{put(1, "a", "x")}, nil}})
	if l, e := tree.Pages(r, loop); l != nil || e != api.ErrNode {
		t.Errorf("Pages of a loop: %d", e)
	}
	if e := tree.Sound(r, loop); e != api.ErrNode {
		t.Errorf("Sound of a loop: %d", e)
	}
	tree.Get(r, loop, "b")
	tree.Scan(r, loop, api.Range{}, -1)
	var seq uint64 = 2
	tree.Put(r, loop, entries(rand.New(rand.NewSource(1)), &seq, func() string { return fmt.Sprintf("%05d", seq%977) }, 300, 10))
}

// chain is a tree of so many leaves, one node below the other; of one node more, if it is wide.
func chain(t *testing.T, r *room, leaves int, wide bool) (int, []api.Pair) {
	var m []api.Pair
	key := func(i int) string { return fmt.Sprintf("%04d", i) }
	for i := range leaves {
		m = append(m, api.Pair{Key: key(i), Value: key(i)})
	}
	last := leaves - 1
	root := r.add(t, leaf(key(last)))
	for i := last - 1; i >= 0; i-- {
		n := api.Node{Kids: []int{r.add(t, leaf(key(i))), root}, Pivots: []string{key(i + 1)}, Buffers: make([][]api.Entry, 2)}
		if wide && i == 1 {
			i--
			n.Kids = append([]int{r.add(t, leaf(key(i)))}, n.Kids...)
			n.Pivots = append([]string{key(i + 1)}, n.Pivots...)
			n.Buffers = make([][]api.Entry, 3)
		}
		root = r.add(t, n)
	}
	return root, m
}

func TestP14_3MaxPlaces(t *testing.T) {
	for _, x := range []struct {
		leaves int
		wide   bool
		pages  int
	}{{512, false, 1023}, {513, true, 1024}, {513, false, 1025}, {600, false, 1199}} {
		r := newRoom()
		root, m := chain(t, r, x.leaves, x.wide)
		l, e := tree.Pages(r, root)
		if x.pages > 1024 {
			if l != nil || e != api.ErrNode || tree.Sound(r, root) != api.ErrNode {
				t.Errorf("%d pages: %d", x.pages, e)
			}
			continue
		}
		if len(l) != x.pages || e != api.OK {
			t.Errorf("%d pages: %d, %d", x.pages, len(l), e)
		}
		sound(t, r, root, m)
		if v, is, e := tree.Get(r, root, m[len(m)-1].Key); v == "" || !is || e != api.OK {
			t.Errorf("Get: %d", e)
		}
	}
}

func TestP14_3OnePageMissing(t *testing.T) {
	// Each page that can't be read is told of, wherever it stands.
	r := newRoom()
	var m []api.Pair
	for i := range 400 {
		m = append(m, api.Pair{Key: fmt.Sprintf("key%09d", i), Value: "0123456789abcdef"})
	}
	root, _ := tree.Build(r, m)
	for _, p := range pagesOf(t, r, root) {
		was := r.pages[p]
		delete(r.pages, p)
		if l, e := tree.Scan(r, root, api.Range{}, -1); l != nil || e != api.ErrPage {
			t.Errorf("Scan without %d: %d", p, e)
		}
		if l, e := tree.Pages(r, root); l != nil || e != api.ErrPage {
			t.Errorf("Pages without %d: %d", p, e)
		}
		if e := tree.Sound(r, root); e != api.ErrNode {
			t.Errorf("Sound without %d: %d", p, e)
		}
		r.pages[p] = was
	}
}

func TestP14_3Sound(t *testing.T) {
	kids := func(r *room, a, b api.Node) []int { return []int{r.add(t, a), r.add(t, b)} }
	stem := func(k []int, pivot string, l ...[]api.Entry) api.Node {
		for len(l) < 2 {
			l = append(l, nil)
		}
		return api.Node{Kids: k, Pivots: []string{pivot}, Buffers: l}
	}
	for i, f := range []func(r *room) (int, bool){
		func(r *room) (int, bool) { return 0, true },
		func(r *room) (int, bool) { return 5, false },
		func(r *room) (int, bool) { return r.add(t, leaf()), false },
		func(r *room) (int, bool) { return r.add(t, leaf("a")), true },
		func(r *room) (int, bool) { return r.add(t, stem(kids(r, leaf("a"), leaf("m")), "m")), true },
		func(r *room) (int, bool) { return r.add(t, stem(kids(r, leaf("a"), leaf()), "m")), false },
		func(r *room) (int, bool) { return r.add(t, stem(kids(r, leaf("a", "m"), leaf("n")), "m")), false },
		func(r *room) (int, bool) { return r.add(t, stem(kids(r, leaf("a"), leaf("l")), "m")), false },
		func(r *room) (int, bool) {
			id := r.add(t, leaf("a"))
			return r.add(t, stem([]int{id, id}, "m")), false
		},
		func(r *room) (int, bool) {
			k := kids(r, leaf("a"), leaf("m"))
			return r.add(t, stem([]int{k[0], 99}, "m")), false
		},
		func(r *room) (int, bool) { // a pivot below that is not in the range
			low := r.add(t, stem(kids(r, leaf("a"), leaf("n")), "n"))
			return r.add(t, stem([]int{low, r.add(t, leaf("z"))}, "m")), false
		},
		func(r *room) (int, bool) { // a pivot below that is the end of the range
			low := r.add(t, stem(kids(r, leaf("a"), leaf("m")), "m"))
			return r.add(t, stem([]int{low, r.add(t, leaf("z"))}, "m")), false
		},
		func(r *room) (int, bool) { // entries below that are not in the range
			low := r.add(t, stem(kids(r, leaf("a"), leaf("d")), "c", nil, []api.Entry{put(1, "n", "")}))
			return r.add(t, stem([]int{low, r.add(t, leaf("z"))}, "m")), false
		},
		func(r *room) (int, bool) {
			low := r.add(t, stem(kids(r, leaf("a"), leaf("d")), "c", nil, []api.Entry{wipe(1, "c", "n")}))
			return r.add(t, stem([]int{low, r.add(t, leaf("z"))}, "m")), false
		},
		func(r *room) (int, bool) {
			low := r.add(t, stem(kids(r, leaf("a"), leaf("d")), "c", nil, []api.Entry{wipe(1, "c", "m"), del(2, "lz")}))
			return r.add(t, stem([]int{low, r.add(t, leaf("z"))}, "m")), true
		},
		func(r *room) (int, bool) {
			high := r.add(t, stem(kids(r, leaf("n"), leaf("q")), "p", []api.Entry{put(1, "m", ""), del(2, "a")}))
			return r.add(t, stem([]int{r.add(t, leaf("a")), high}, "m")), false
		},
		func(r *room) (int, bool) { // a leaf two nodes below with a key of another one
			low := r.add(t, stem(kids(r, leaf("a"), leaf("d", "m")), "c"))
			return r.add(t, stem([]int{low, r.add(t, leaf("z"))}, "m")), false
		},
	} {
		r := newRoom()
		root, want := f(r)
		if e := tree.Sound(r, root); (e == api.OK) != want || e != api.OK && e != api.ErrNode {
			t.Errorf("%d: Sound: %d", i, e)
		}
	}
}

func TestP14_4Follows(t *testing.T) {
	r := rand.New(rand.NewSource(5))
	for range 20 {
		rm := newRoom()
		key := keysOf(r)
		var seq uint64
		type old struct {
			root int
			m    []api.Pair
		}
		l := []old{{}}
		for range 10 {
			last := l[len(l)-1]
			a, b := entries(r, &seq, key, 20, 5), entries(r, &seq, key, 20, 5)
			both, e := tree.Put(rm, last.root, append(slices.Clone(a), b...))
			if e != api.OK {
				t.Fatal(e)
			}
			root, m := grow(t, rm, last.root, last.m, a)
			root, m = grow(t, rm, root, m, b)
			sound(t, rm, both, m)
			l = append(l, old{root, m})
		}
		for _, x := range l {
			sound(t, rm, x.root, x.m)
		}
	}
}
