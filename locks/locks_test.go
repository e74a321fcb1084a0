package locks_test

import (
	"math/rand"
	"slices"
	"testing"

	"sumpter/api"
	"sumpter/locks"
	"sumpter/span"
)

func read(lo, hi string) api.Lock { return api.Lock{Range: api.Range{Lo: lo, Hi: hi}} }

func write(lo, hi string) api.Lock { return api.Lock{Range: api.Range{Lo: lo, Hi: hi}, Write: true} }

func asks(t *testing.T, x *locks.Table, txn uint64, l api.Lock, want int, granted, dead []uint64) {
	t.Helper()
	state, g, d, e := x.Ask(txn, l)
	if state != want || !slices.Equal(g, granted) || !slices.Equal(d, dead) || e != api.OK {
		t.Errorf("Ask(%d, %v): %d %v %v %d, want %d %v %v", txn, l, state, g, d, e, want, granted, dead)
	}
}

func releases(t *testing.T, x *locks.Table, txn uint64, granted, dead []uint64) {
	t.Helper()
	if g, d := x.Release(txn); !slices.Equal(g, granted) || !slices.Equal(d, dead) {
		t.Errorf("Release(%d): %v %v, want %v %v", txn, g, d, granted, dead)
	}
}

func ids(l ...uint64) []uint64 { return l }

func TestP16_1Example(t *testing.T) {
	x := locks.New()
	if len(x.Txns()) != 0 || len(x.Waiting()) != 0 || len(x.Holds(1)) != 0 {
		t.Error("a new one")
	}
	a := "a\x00"
	asks(t, x, 2, write("a", a), locks.Granted, nil, nil)
	asks(t, x, 3, read("a", a), locks.Dies, nil, nil)
	asks(t, x, 1, read("a", a), locks.Waits, nil, nil)
	if !slices.Equal(x.Txns(), ids(1, 2)) || !slices.Equal(x.Waiting(), []locks.Ask{{Txn: 1, Lock: read("a", a)}}) {
		t.Errorf("Txns: %v, Waiting: %v", x.Txns(), x.Waiting())
	}
	releases(t, x, 2, ids(1), nil)
	asks(t, x, 5, read("a", ""), locks.Granted, nil, nil)
	asks(t, x, 1, write("a", a), locks.Waits, nil, nil)
	releases(t, x, 5, ids(1), nil)
	if !slices.Equal(x.Holds(1), []api.Lock{read("a", a), write("a", a)}) {
		t.Errorf("Holds: %v", x.Holds(1))
	}
}

func TestP16_1Errors(t *testing.T) {
	x := locks.New()
	asks(t, x, 9, write("", ""), locks.Granted, nil, nil)
	asks(t, x, 1, read("a", "b"), locks.Waits, nil, nil)
	for i, c := range []struct {
		txn uint64
		l   api.Lock
		e   api.Errno
	}{{1, read("b", "a"), api.ErrRange}, {1, read("x", "y"), api.ErrState}, {2, read("a", "a"), api.ErrRange}, {2, write("0123456789abc", ""), api.ErrRange}} {
		if s, g, d, e := x.Ask(c.txn, c.l); s != 0 || g != nil || d != nil || e != c.e {
			t.Errorf("%d: Ask: %d %d, want %d", i, s, e, c.e)
		}
	}
	if !slices.Equal(x.Txns(), ids(1, 9)) {
		t.Errorf("Txns: %v", x.Txns())
	}
}

func TestP16_1Has(t *testing.T) {
	x := locks.New()
	asks(t, x, 5, write("a", "m"), locks.Granted, nil, nil)
	for _, l := range []api.Lock{write("a", "m"), read("b", "c"), write("b", "m")} {
		asks(t, x, 5, l, locks.Granted, nil, nil)
	}
	if len(x.Holds(5)) != 1 {
		t.Errorf("Holds: %v", x.Holds(5))
	}
	asks(t, x, 5, read("a", "n"), locks.Granted, nil, nil)
	asks(t, x, 5, write("a", "n"), locks.Granted, nil, nil)
	asks(t, x, 5, write("c", "n"), locks.Granted, nil, nil)
	if !slices.Equal(x.Holds(5), []api.Lock{write("a", "m"), read("a", "n"), write("a", "n")}) {
		t.Errorf("Holds: %v", x.Holds(5))
	}
}

func TestP16_1Dead(t *testing.T) {
	x := locks.New()
	asks(t, x, 9, read("a", "b"), locks.Granted, nil, nil)
	asks(t, x, 5, write("c", "d"), locks.Granted, nil, nil)
	asks(t, x, 4, read("x", "y"), locks.Granted, nil, nil)
	asks(t, x, 4, write("a", "b"), locks.Waits, nil, nil)
	asks(t, x, 6, write("a", "b"), locks.Waits, nil, nil)
	asks(t, x, 2, write("x", "y"), locks.Waits, nil, nil)
	// 3 reads what 4 and 6 wait to write: both die, and what 4 held is granted to 2.
	asks(t, x, 3, read("a", "b"), locks.Granted, ids(2), ids(4, 6))
	if !slices.Equal(x.Txns(), ids(2, 3, 5, 9)) || len(x.Waiting()) != 0 {
		t.Errorf("Txns: %v, Waiting: %v", x.Txns(), x.Waiting())
	}
	// An elder one that waits does not die.
	asks(t, x, 1, write("a", "b"), locks.Waits, nil, nil)
	asks(t, x, 7, read("a", "b"), locks.Granted, nil, nil)
	asks(t, x, 8, write("c", "d"), locks.Dies, nil, nil)
	asks(t, x, 7, write("c", "d"), locks.Dies, nil, nil)
	if !slices.Equal(x.Holds(7), []api.Lock{read("a", "b")}) {
		t.Error("one that dies keeps what it holds")
	}
	releases(t, x, 3, nil, nil)
	releases(t, x, 9, nil, nil)
	releases(t, x, 7, ids(1), nil)
	releases(t, x, 77, nil, nil)
}

func TestP16_1Settle(t *testing.T) {
	// The eldest one is granted first; those that then are in its way, and younger, die.
	x := locks.New()
	asks(t, x, 9, write("a", "d"), locks.Granted, nil, nil)
	asks(t, x, 3, write("a", "c"), locks.Waits, nil, nil)
	asks(t, x, 2, write("b", "c"), locks.Waits, nil, nil)
	asks(t, x, 5, write("c", "d"), locks.Waits, nil, nil)
	asks(t, x, 4, read("c", "d"), locks.Waits, nil, nil)
	releases(t, x, 9, ids(2, 4), ids(3, 5))
	// One that has something in its way stays, if it is elder.
	asks(t, x, 1, read("a", ""), locks.Waits, nil, nil)
	releases(t, x, 4, nil, nil)
	releases(t, x, 2, ids(1), nil)
}

func TestP16_1Rising(t *testing.T) {
	// 5 is granted x ahead of 2's being granted y, which 7 had, which died of it.
	x := locks.New()
	asks(t, x, 9, write("x", "y"), locks.Granted, nil, nil)
	asks(t, x, 7, write("y", "z"), locks.Granted, nil, nil)
	asks(t, x, 7, write("x", "y"), locks.Waits, nil, nil)
	asks(t, x, 5, write("x", "y"), locks.Waits, nil, nil)
	asks(t, x, 2, write("y", "z"), locks.Waits, nil, nil)
	releases(t, x, 9, ids(2, 5), ids(7))
	// 8 dies ahead of 6.
	x = locks.New()
	asks(t, x, 9, write("x", "z"), locks.Granted, nil, nil)
	for _, txn := range []uint64{3, 8} {
		asks(t, x, txn, write("x", "y"), locks.Waits, nil, nil)
	}
	for _, txn := range []uint64{5, 6} {
		asks(t, x, txn, write("y", "z"), locks.Waits, nil, nil)
	}
	releases(t, x, 9, ids(3, 5), ids(6, 8))
}

func TestP16_1Many(t *testing.T) {
	x := locks.New()
	key := func(i int) string { return string([]byte{'a' + byte(i/26), 'a' + byte(i%26)}) }
	for i := range 191 {
		asks(t, x, uint64(5+i%3), write(key(i), key(i)+"\x00"), locks.Granted, nil, nil)
	}
	asks(t, x, 1, read(key(0), key(1)), locks.Waits, nil, nil)
	asks(t, x, 2, read("zz", ""), locks.Dies, nil, nil)
	asks(t, x, 5, read(key(0), key(0)+"\x00"), locks.Granted, nil, nil)
	asks(t, x, 2, read(key(0), key(1)), locks.Dies, nil, nil)
	releases(t, x, 1, nil, nil)
	asks(t, x, 2, read("zz", ""), locks.Granted, nil, nil)
	asks(t, x, 2, read("zz", ""), locks.Granted, nil, nil)
	asks(t, x, 2, write("zz", ""), locks.Dies, nil, nil)
}

func TestP16_2Release(t *testing.T) {
	x := locks.New()
	asks(t, x, 5, read("", ""), locks.Granted, nil, nil)
	asks(t, x, 1, write("a", "b"), locks.Waits, nil, nil)
	releases(t, x, 1, nil, nil) // it waits no more
	releases(t, x, 5, nil, nil)
	if len(x.Txns()) != 0 {
		t.Errorf("Txns: %v", x.Txns())
	}
	asks(t, x, 1, write("a", "b"), locks.Granted, nil, nil)
}

func TestP16_3Holds(t *testing.T) {
	x := locks.New()
	asks(t, x, 7, read("b", "c"), locks.Granted, nil, nil)
	asks(t, x, 7, write("a", "b"), locks.Granted, nil, nil)
	asks(t, x, 3, write("x", ""), locks.Granted, nil, nil)
	asks(t, x, 3, write("b", "c"), locks.Waits, nil, nil)
	asks(t, x, 2, read("a", "b"), locks.Waits, nil, nil)
	x.Holds(7)[0] = api.Lock{}
	if !slices.Equal(x.Holds(7), []api.Lock{read("b", "c"), write("a", "b")}) || !slices.Equal(x.Holds(3), []api.Lock{write("x", "")}) || len(x.Holds(2)) != 0 {
		t.Errorf("Holds: %v", x.Holds(7))
	}
	if !slices.Equal(x.Waiting(), []locks.Ask{{Txn: 2, Lock: read("a", "b")}, {Txn: 3, Lock: write("b", "c")}}) {
		t.Errorf("Waiting: %v", x.Waiting())
	}
	if !slices.Equal(x.Txns(), ids(2, 3, 7)) {
		t.Errorf("Txns: %v", x.Txns())
	}
}

func inWay(a, b api.Lock) bool {
	_, meet := span.Meet(a.Range, b.Range)
	return meet && (a.Write || b.Write)
}

func TestP16_4Follows(t *testing.T) {
	r := rand.New(rand.NewSource(1))
	ends := []string{"a", "b", "c", "d", "e"}
	for range 300 {
		x := locks.New()
		for range 80 {
			i := r.Intn(4)
			l := api.Lock{Range: api.Range{Lo: ends[i], Hi: ends[i+1+r.Intn(4-i)]}, Write: r.Intn(2) == 0}
			txn := uint64(r.Intn(8))
			c, was := x.Clone(), x.Txns()
			if r.Intn(4) == 0 {
				c.Release(txn)
				x.Release(txn)
			} else {
				s, g, d, e := c.Ask(txn, l)
				if !slices.Equal(was, x.Txns()) {
					t.Fatal("a clone is not another one")
				}
				s2, g2, d2, e2 := x.Ask(txn, l)
				if s != s2 || !slices.Equal(g, g2) || !slices.Equal(d, d2) || e != e2 {
					t.Fatal("a clone answers otherwise")
				}
			}
			for _, a := range x.Txns() {
				for _, b := range x.Txns() {
					for _, l := range x.Holds(a) {
						for _, m := range x.Holds(b) {
							if a != b && inWay(l, m) {
								t.Fatalf("%d and %d hold %v and %v", a, b, l, m)
							}
						}
					}
				}
			}
			for _, w := range x.Waiting() {
				waits := false
				for _, b := range x.Txns() {
					for _, m := range x.Holds(b) {
						if b != w.Txn && inWay(w.Lock, m) {
							waits = true
							if b < w.Txn {
								t.Fatalf("%d waits for %d", w.Txn, b)
							}
						}
					}
				}
				if !waits {
					t.Fatalf("%d waits for nothing", w.Txn)
				}
			}
		}
		for _, txn := range x.Txns() {
			if len(x.Holds(txn)) > 0 {
				x.Release(txn)
			}
		}
		for range 100 {
			for _, txn := range x.Txns() {
				if len(x.Holds(txn)) > 0 {
					x.Release(txn)
				}
			}
		}
		if len(x.Waiting()) != 0 {
			t.Fatal("some wait, and nothing is held")
		}
	}
}
