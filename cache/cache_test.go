package cache_test

import (
	"fmt"
	"math/rand"
	"slices"
	"strings"
	"testing"

	"sumpter/api"
	"sumpter/cache"
)

// back tells what is asked of it.
type back struct {
	told  []string
	pages map[int]string
	safe  uint64
	fail  map[string]api.Errno
	lazy  bool // Force makes nothing safe
	gave  [][]byte
}

func (b *back) say(s string) api.Errno {
	b.told = append(b.told, s)
	return b.fail[s]
}

func (b *back) Load(id int) ([]byte, api.Errno) {
	e := b.say(fmt.Sprint("load ", id))
	p := []byte(b.pages[id])
	b.gave = append(b.gave, p)
	return p, e
}

func (b *back) Save(id int, p []byte) api.Errno {
	e := b.say(fmt.Sprint("save ", id))
	if e == api.OK {
		b.pages[id] = string(p)
	}
	for i := range p {
		p[i] = '!'
	}
	return e
}

func (b *back) Safe() uint64 { return b.safe }

func (b *back) Force(lsn uint64) api.Errno {
	e := b.say(fmt.Sprint("force ", lsn))
	if e == api.OK && !b.lazy {
		b.safe = max(b.safe, lsn)
	}
	return e
}

func (b *back) said(t *testing.T, want string) {
	t.Helper()
	if got := strings.Join(b.told, ", "); got != want {
		t.Errorf("asked: %q, want %q", got, want)
	}
	b.told = nil
}

func made(t *testing.T, n int) (*cache.Cache, *back) {
	t.Helper()
	b := &back{pages: map[int]string{1: "one", 2: "two", 3: "three", 4: "four", 5: "five"}, fail: map[string]api.Errno{}}
	c, e := cache.New(n, b)
	if c == nil || e != api.OK {
		t.Fatalf("New(%d): %d", n, e)
	}
	return c, b
}

func pin(t *testing.T, c *cache.Cache, id int, want string) {
	t.Helper()
	if b, e := c.Pin(id); string(b) != want || e != api.OK {
		t.Errorf("Pin(%d): %q %d, want %q", id, b, e, want)
	}
}

func fails(t *testing.T, c *cache.Cache, id int, want api.Errno) {
	t.Helper()
	if b, e := c.Pin(id); b != nil || e != want {
		t.Errorf("Pin(%d): %q %d, want %d", id, b, e, want)
	}
}

func ok(t *testing.T, l ...api.Errno) {
	t.Helper()
	for i, e := range l {
		if e != api.OK {
			t.Errorf("%d: %d", i, e)
		}
	}
}

func has(t *testing.T, c *cache.Cache, ids ...int) {
	t.Helper()
	for id := range 8 {
		if c.Has(id) != slices.Contains(ids, id) {
			t.Errorf("Has(%d): %v", id, c.Has(id))
		}
	}
}

func TestP10_1New(t *testing.T) {
	for n, want := range map[int]api.Errno{-1: api.ErrArg, 0: api.ErrArg, 1: api.OK, 64: api.OK, 65: api.ErrArg, 1 << 62: api.ErrArg} {
		if c, e := cache.New(n, &back{}); e != want || (c == nil) != (e != api.OK) {
			t.Errorf("New(%d): %d", n, e)
		}
	}
	if c, e := cache.New(2, nil); c != nil || e != api.ErrArg {
		t.Errorf("New without a Back: %d", e)
	}
	c, _ := made(t, 3)
	has(t, c)
	if len(c.Dirty()) != 0 || c.Flush() != api.OK {
		t.Error("a new one")
	}
}

func TestP10_2Pin(t *testing.T) {
	c, b := made(t, 2)
	pin(t, c, 1, "one")
	pin(t, c, 2, "two")
	fails(t, c, 3, api.ErrPinned)
	b.said(t, "load 1, load 2")
	pin(t, c, 1, "one")
	b.said(t, "")
	ok(t, c.Unpin(1), c.Unpin(1), c.Unpin(2))
	pin(t, c, 3, "three") // over 0 and 1, then takes 0: the hand points to 1, which is touched no more
	has(t, c, 2, 3)
	ok(t, c.Unpin(3))
	pin(t, c, 4, "four")
	has(t, c, 3, 4)
	ok(t, c.Unpin(4))
	pin(t, c, 3, "three")
	ok(t, c.Unpin(3))
	pin(t, c, 1, "one") // the hand points to 0 (3, touched), then 1 (4, touched), then takes 0
	has(t, c, 1, 4)
	if got, _ := c.Pin(1); len(got) > 0 {
		got[0] = '!'
	}
	b.gave[len(b.gave)-1][0] = '?'
	pin(t, c, 1, "one")
}

func TestP10_2Hand(t *testing.T) {
	c, b := made(t, 3)
	for id := 1; id <= 3; id++ {
		pin(t, c, id, b.pages[id])
	}
	ok(t, c.Unpin(2), c.Unpin(3))
	pin(t, c, 4, "four") // 1 is pinned, 2 and 3 are touched: takes 2's place
	has(t, c, 1, 3, 4)
	ok(t, c.Unpin(4))
	pin(t, c, 5, "five") // the hand points to 3's place, which is touched no more
	has(t, c, 1, 4, 5)
}

func TestP10_2SecondChance(t *testing.T) {
	c, b := made(t, 3)
	for id := 1; id <= 3; id++ {
		pin(t, c, id, b.pages[id])
		ok(t, c.Unpin(id))
	}
	pin(t, c, 4, "four") // over all three, then takes 1's place
	pin(t, c, 2, "two")  // touched anew
	ok(t, c.Unpin(4), c.Unpin(2))
	pin(t, c, 5, "five") // over 2, which was touched: takes 3's place
	has(t, c, 2, 4, 5)
}

// clock is the chapter's rule, as it stands there.
type clock struct {
	places []slot
	hand   int
	b      *back
	want   []string
}

type slot struct {
	full, touched, dirty bool
	id, pins             int
	lsn                  uint64
}

func (c *clock) at(id int) int {
	return slices.IndexFunc(c.places, func(s slot) bool { return s.full && s.id == id })
}

func (c *clock) writeBack(i int) api.Errno {
	s := &c.places[i]
	if !s.dirty {
		return api.OK
	}
	if c.b.safe < s.lsn {
		c.want = append(c.want, fmt.Sprint("force ", s.lsn))
		if e := c.b.fail[fmt.Sprint("force ", s.lsn)]; e != api.OK {
			return e
		}
	}
	c.want = append(c.want, fmt.Sprint("save ", s.id))
	if e := c.b.fail[fmt.Sprint("save ", s.id)]; e != api.OK {
		return e
	}
	s.dirty = false
	return api.OK
}

func (c *clock) pin(id int) api.Errno {
	i := c.at(id)
	if i < 0 {
		i = slices.IndexFunc(c.places, func(s slot) bool { return !s.full })
		for i < 0 {
			if !slices.ContainsFunc(c.places, func(s slot) bool { return s.pins == 0 }) {
				return api.ErrPinned
			}
			h := c.hand
			c.hand = (h + 1) % len(c.places)
			if s := &c.places[h]; s.pins > 0 || s.touched {
				s.touched = s.touched && s.pins > 0
				continue
			}
			if e := c.writeBack(h); e != api.OK {
				return e
			}
			c.places[h] = slot{}
			i = h
		}
		c.want = append(c.want, fmt.Sprint("load ", id))
		if e := c.b.fail[fmt.Sprint("load ", id)]; e != api.OK {
			return e
		}
		c.places[i] = slot{full: true, id: id}
	}
	c.places[i].pins++
	c.places[i].touched = true
	return api.OK
}

func TestP10_2Clock(t *testing.T) {
	r := rand.New(rand.NewSource(2))
	for range 100 {
		n := 1 + r.Intn(5)
		c, b := made(t, n)
		x := &clock{places: make([]slot, n), b: b}
		for step := range 200 {
			id := r.Intn(9)
			i := x.at(id)
			held := i >= 0 && x.places[i].pins > 0
			b.told, x.want = nil, nil
			var got, want api.Errno
			// The model looks at what is safe ahead of the cache's making it so.
			switch p := r.Intn(20); {
			case p < 7:
				want = x.pin(id)
				_, got = c.Pin(id)
			case p < 14:
				got = c.Unpin(id)
				if held {
					x.places[i].pins--
				} else {
					want = api.ErrNone
				}
			case p < 18:
				lsn := uint64(r.Intn(step + 2))
				got = c.Put(id, []byte{1}, lsn)
				if held {
					s := &x.places[i]
					if s.dirty {
						lsn = max(lsn, s.lsn)
					}
					s.lsn, s.dirty, s.touched = lsn, true, true
				} else {
					want = api.ErrNone
				}
			default:
				what := []string{"load", "save"}[r.Intn(2)]
				b.fail[fmt.Sprint(what, " ", id)] = []api.Errno{api.OK, api.OK, api.ErrDown}[r.Intn(3)]
			}
			if got != want || !slices.Equal(b.told, x.want) {
				t.Fatalf("step %d: %d, asked %q; want %d, %q", step, got, b.told, want, x.want)
			}
			for id := range 9 {
				if c.Has(id) != (x.at(id) >= 0) {
					t.Fatalf("step %d: Has(%d): %v", step, id, c.Has(id))
				}
			}
		}
	}
}

func TestP10_2Errors(t *testing.T) {
	c, b := made(t, 2)
	b.fail["load 3"] = api.ErrDown
	fails(t, c, 3, api.ErrDown)
	has(t, c)
	pin(t, c, 1, "one")
	pin(t, c, 2, "two")
	ok(t, c.Put(1, []byte("uno"), 7), c.Unpin(1), c.Unpin(2))
	b.told = nil
	b.fail["force 7"] = api.ErrFull
	fails(t, c, 4, api.ErrFull) // the hand went over both, and over 1's place: at 2's now
	b.said(t, "force 7")
	has(t, c, 1, 2)
	if !slices.Equal(c.Dirty(), []int{1}) {
		t.Error("it is not dirty any more")
	}
	fails(t, c, 3, api.ErrDown) // 2's place is emptied, and stays empty
	b.said(t, "load 3")
	has(t, c, 1)
	pin(t, c, 4, "four")
	b.said(t, "load 4")
	has(t, c, 1, 4)
	b.fail["force 7"] = api.OK
	b.fail["save 1"] = api.ErrArg
	fails(t, c, 5, api.ErrArg)
	b.said(t, "force 7, save 1")
	b.fail["save 1"] = api.OK
	pin(t, c, 5, "five")
	b.said(t, "save 1, load 5")
	has(t, c, 4, 5)
	if b.pages[1] != "uno" {
		t.Errorf("saved: %q", b.pages[1])
	}
}

func TestP10_3Put(t *testing.T) {
	c, b := made(t, 2)
	for i, e := range []api.Errno{c.Unpin(1), c.Put(1, nil, 1)} {
		if e != api.ErrNone {
			t.Errorf("%d: %d", i, e)
		}
	}
	pin(t, c, 1, "one")
	pin(t, c, 1, "one")
	ok(t, c.Unpin(1), c.Put(1, []byte("x"), 9))
	in := []byte("uno")
	ok(t, c.Put(1, in, 5), c.Unpin(1))
	in[0] = '!'
	for i, e := range []api.Errno{c.Unpin(1), c.Put(1, nil, 1), c.Unpin(2)} {
		if e != api.ErrNone {
			t.Errorf("%d: %d", i, e)
		}
	}
	b.told = nil
	ok(t, c.Flush())
	b.said(t, "force 9, save 1")
	pin(t, c, 1, "uno")
	ok(t, c.Put(1, []byte("eins"), 3))
	b.safe = 2
	ok(t, c.Flush())
	b.said(t, "force 3, save 1")
	ok(t, c.Put(1, []byte("un"), 3), c.Flush())
	b.said(t, "save 1")
	if b.pages[1] != "un" {
		t.Errorf("saved: %q", b.pages[1])
	}
}

func TestP10_3PutTouches(t *testing.T) {
	c, b := made(t, 2)
	pin(t, c, 1, "one")
	pin(t, c, 2, "two")
	ok(t, c.Unpin(2))
	pin(t, c, 3, "three")
	ok(t, c.Unpin(3)) // the hand points to 1's place again
	ok(t, c.Unpin(1))
	pin(t, c, 4, "four") // takes 1's place, and 3 is touched no more
	has(t, c, 3, 4)
	ok(t, c.Put(4, []byte("q"), 0), c.Unpin(4))
	pin(t, c, 5, "five")
	has(t, c, 4, 5)
	if b.pages[4] != "four" {
		t.Error("saved too early")
	}
}

func TestP10_4Flush(t *testing.T) {
	c, b := made(t, 4)
	for _, id := range []int{3, 1, 4, 2} {
		pin(t, c, id, b.pages[id])
	}
	ok(t, c.Put(2, []byte("b"), 0), c.Put(3, []byte("c"), 0), c.Put(1, []byte("a"), 5))
	if d := c.Dirty(); !slices.Equal(d, []int{1, 2, 3}) {
		t.Errorf("Dirty: %v", d)
	}
	b.told = nil
	b.fail["save 1"] = api.ErrFull
	if e := c.Flush(); e != api.ErrFull {
		t.Errorf("Flush: %d", e)
	}
	b.said(t, "save 3, force 5, save 1")
	if d := c.Dirty(); !slices.Equal(d, []int{1, 2}) {
		t.Errorf("Dirty: %v", d)
	}
	b.fail["save 1"] = api.OK
	ok(t, c.Flush())
	b.said(t, "save 1, save 2")
	if len(c.Dirty()) != 0 {
		t.Error("some are dirty")
	}
	ok(t, c.Flush())
	b.said(t, "")
	has(t, c, 1, 2, 3, 4)
	pin(t, c, 2, "b")
}

func TestP10_5Follows(t *testing.T) {
	r := rand.New(rand.NewSource(1))
	for range 50 {
		n := 1 + r.Intn(5)
		c, b := made(t, n)
		want := map[int]string{}
		pins := map[int]int{}
		lsn := map[int]uint64{}
		for id := range 8 {
			want[id] = b.pages[id]
		}
		for step := range 300 {
			id := r.Intn(8)
			switch r.Intn(4) {
			case 0:
				if p, e := c.Pin(id); e == api.OK {
					pins[id]++
					if string(p) != want[id] {
						t.Fatalf("Pin(%d): %q, want %q", id, p, want[id])
					}
				} else if e != api.ErrPinned {
					t.Fatalf("Pin: %d", e)
				}
			case 1:
				if (c.Unpin(id) == api.OK) != (pins[id] > 0) {
					t.Fatal("Unpin")
				}
				pins[id] = max(0, pins[id]-1)
			case 2:
				s := fmt.Sprint(step)
				if c.Put(id, []byte(s), uint64(step)) == api.OK {
					want[id] = s
					lsn[id] = uint64(step)
				}
			case 3:
				if r.Intn(10) == 0 {
					ok(t, c.Flush())
				}
			}
			for id, n := range pins {
				if n > 0 && !c.Has(id) {
					t.Fatal("a page that is pinned is gone")
				}
			}
			for id, s := range want {
				dirty := slices.Contains(c.Dirty(), id)
				if !dirty && (b.pages[id] != s || b.safe < lsn[id]) {
					t.Fatalf("page %d was not saved as it was put, or ahead of its log", id)
				}
			}
		}
	}
}
