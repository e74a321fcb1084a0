package tree

import (
	"sumpter/api"
	"sumpter/buffer"
	"sumpter/node"
)

const (
	// leafRoom is how many bytes of a leaf's page its pairs may take.
	leafRoom = api.MaxPage - 3
	// mostPair is how many bytes a pair takes at the most.
	mostPair = 2 + api.MaxKey + api.MaxValue
	// someKid stands for a page that is not written yet: no number takes more bytes.
	someKid = 1<<31 - 1
)

// twig is a part of a tree: a page that stays as it is, or a node that is to be written.
type twig struct {
	page    int // 0, if it is to be written
	leaf    bool
	pairs   []api.Pair
	kids    []*twig
	pivots  []string
	buffers [][]api.Entry
}

// grove is what becomes of a twig: none, one or some, with pivots between them.
type grove struct {
	twigs  []*twig
	pivots []string
}

// gardener grows a tree: no page is read twice, and the pages that were read are not the new tree's.
type gardener struct {
	walker
	old []int
}

// weight is about how many bytes an entry takes.
func weight(l []api.Entry) int {
	sum := 0
	for _, x := range l {
		sum += 8 + len(x.Op.Key) + len(x.Op.Value) + len(x.Op.Lo) + len(x.Op.Hi)
	}
	return sum
}

// sizeOf is how many bytes a pair takes.
func sizeOf(p api.Pair) int { return 2 + len(p.Key) + len(p.Value) }

// leaves are pairs as leaves whose pairs take no more than some bytes.
func leaves(m []api.Pair, most int) grove {
	var g grove
	size := 0
	for _, p := range m {
		last := len(g.twigs) - 1
		if last < 0 || size+sizeOf(p) > most {
			if last >= 0 {
				g.pivots = append(g.pivots, p.Key)
			}
			g.twigs = append(g.twigs, &twig{leaf: true})
			last++
			size = 0
		}
		g.twigs[last].pairs = append(g.twigs[last].pairs, p)
		size += sizeOf(p)
	}
	return g
}

// evenLeaves are pairs as leaves that are about equally full.
func evenLeaves(m []api.Pair) grove {
	total := 0
	for _, p := range m {
		total += sizeOf(p)
	}
	n := (total + leafRoom - 1) / leafRoom
	if n <= 1 {
		return leaves(m, leafRoom)
	}
	return leaves(m, min(leafRoom, total/n+mostPair))
}

// open reads the node of a page; what was read is to be written anew.
func (g *gardener) open(t *twig) api.Errno {
	if t.page == 0 {
		return api.OK
	}
	n, e := g.node(t.page)
	if e != api.OK {
		return e
	}
	g.old = append(g.old, t.page)
	*t = twig{leaf: n.Leaf, pairs: n.Pairs, pivots: n.Pivots, buffers: n.Buffers}
	for _, kid := range n.Kids {
		t.kids = append(t.kids, &twig{page: kid})
	}
	return api.OK
}

// push puts entries into a twig.
func (g *gardener) push(t *twig, l []api.Entry) (grove, api.Errno) {
	if len(l) == 0 {
		return grove{twigs: []*twig{t}}, api.OK
	}
	if e := g.open(t); e != api.OK {
		return grove{}, e
	}
	if t.leaf {
		pairs, e := buffer.Apply(t.pairs, l)
		return evenLeaves(pairs), e
	}
	// Entries of a buffer rise; where these do not stand behind those that wait, the latter go down first.
	for i := len(t.kids) - 1; i >= 0; i-- {
		if b := t.buffers[i]; len(b) > 0 && b[len(b)-1].Seq >= l[0].Seq {
			if e := g.flush(t, i); e != api.OK {
				return grove{}, e
			}
		}
	}
	if len(t.kids) == 0 {
		return g.push(&twig{leaf: true}, l)
	}
	parts, e := buffer.Part(l, t.pivots)
	if e != api.OK {
		return grove{}, e
	}
	for i, part := range parts {
		squeezed, e := buffer.Squeeze(append(t.buffers[i], part...))
		if e != api.OK {
			return grove{}, e
		}
		t.buffers[i] = squeezed
	}
	return g.settle(t)
}

// flush lets what waits for a kid go down to it.
func (g *gardener) flush(t *twig, i int) api.Errno {
	grown, e := g.push(t.kids[i], t.buffers[i])
	if e != api.OK {
		return e
	}
	n := len(grown.twigs)
	t.kids = replace(t.kids, i, i+1, grown.twigs)
	t.buffers = replace(t.buffers, i, i+1, make([][]api.Entry, n))
	switch {
	case n > 0:
		t.pivots = replace(t.pivots, i, i, grown.pivots)
	case i > 0:
		t.pivots = replace(t.pivots, i-1, i, nil)
	case len(t.pivots) > 0:
		t.pivots = replace(t.pivots, 0, 1, nil)
	}
	return api.OK
}

// replace is a list with others in the place of some.
func replace[T any](l []T, from, to int, others []T) []T {
	var out []T
	out = append(out, l[:from]...)
	out = append(out, others...)
	return append(out, l[to:]...)
}

// settle makes nodes of a twig that may have too few kids, too many, or too full buffers.
func (g *gardener) settle(t *twig) (grove, api.Errno) {
	for {
		switch {
		case len(t.kids) == 0:
			return grove{}, api.OK
		case len(t.kids) == 1 && len(t.buffers[0]) == 0:
			return grove{twigs: t.kids}, api.OK
		case len(t.kids) == 1:
			return g.push(t.kids[0], t.buffers[0])
		case len(t.kids) > api.MaxKids:
			return g.split(t)
		}
		size, e := node.Size(t.node(nil))
		if e != api.OK {
			return grove{}, e
		}
		if size <= api.MaxPage {
			return grove{twigs: []*twig{t}}, api.OK
		}
		if e := g.flush(t, t.fullest()); e != api.OK {
			return grove{}, e
		}
	}
}

// fullest is which buffer is the fullest one.
func (t *twig) fullest() int {
	best, most := 0, 0
	for i, b := range t.buffers {
		if w := weight(b); w > most {
			best, most = i, w
		}
	}
	return best
}

// node is the node of a twig; the kids that are pages have their numbers, the others those that are given, if any are.
func (t *twig) node(written []int) api.Node {
	if t.leaf {
		return api.Node{Leaf: true, Pairs: t.pairs}
	}
	n := api.Node{Kids: written, Pivots: t.pivots, Buffers: t.buffers}
	if written != nil {
		return n
	}
	for _, kid := range t.kids {
		page := kid.page
		if page == 0 {
			page = someKid
		}
		n.Kids = append(n.Kids, page)
	}
	return n
}

// split makes several nodes of a twig that has too many kids.
func (g *gardener) split(t *twig) (grove, api.Errno) {
	var all grove
	count := len(t.kids)
	groups := (count + api.MaxKids - 1) / api.MaxKids
	for i := range groups {
		from, to := i*count/groups, (i+1)*count/groups
		part := &twig{kids: t.kids[from:to:to], buffers: t.buffers[from:to:to], pivots: t.pivots[from : to-1 : to-1]}
		grown, e := g.settle(part)
		if e != api.OK {
			return grove{}, e
		}
		if len(grown.twigs) == 0 {
			continue
		}
		if len(all.twigs) > 0 {
			all.pivots = append(all.pivots, t.pivots[from-1])
		}
		all.twigs = append(all.twigs, grown.twigs...)
		all.pivots = append(all.pivots, grown.pivots...)
	}
	return all, api.OK
}

// plant makes one tree of a grove, and writes what is to be written.
func (g *gardener) plant(grown grove) (int, api.Errno) {
	for len(grown.twigs) > 1 {
		top := &twig{kids: grown.twigs, pivots: grown.pivots, buffers: make([][]api.Entry, len(grown.twigs))}
		var e api.Errno
		if grown, e = g.settle(top); e != api.OK {
			return 0, e
		}
	}
	if len(grown.twigs) == 0 {
		return 0, api.OK
	}
	return g.write(grown.twigs[0])
}

// write writes a twig, its kids ahead of it.
func (g *gardener) write(t *twig) (int, api.Errno) {
	if t.page != 0 {
		return t.page, api.OK
	}
	var kids []int
	for _, kid := range t.kids {
		id, e := g.write(kid)
		if e != api.OK {
			return 0, e
		}
		kids = append(kids, id)
	}
	b, e := node.Encode(t.node(kids))
	if e != api.OK {
		return 0, e
	}
	return g.room.Write(b)
}
