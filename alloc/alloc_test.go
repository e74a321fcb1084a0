package alloc_test

import (
	"bytes"
	"math/rand"
	"slices"
	"testing"

	"sumpter/alloc"
	"sumpter/api"
)

func made(t *testing.T, n int) *alloc.Alloc {
	a, e := alloc.New(n)
	if a == nil || e != api.OK {
		t.Fatalf("New(%d): %d", n, e)
	}
	return a
}

func TestP8_1New(t *testing.T) {
	for n, want := range map[int]api.Errno{-1: api.ErrArg, 0: api.ErrArg, 1: api.OK, 8: api.OK, 1024: api.OK, 1025: api.ErrArg, 1 << 62: api.ErrArg} {
		a, e := alloc.New(n)
		if e != want || (a == nil) != (e != api.OK) {
			t.Errorf("New(%d): %d", n, e)
		}
		if b, f := alloc.Load(n, make([]byte, 2000)); b != nil || f == api.OK || e != api.OK && f != api.ErrArg {
			t.Errorf("Load(%d): %d", n, f)
		}
		if e == api.OK && (a.Left() != n || len(a.Used()) != 0 || len(a.Bits()) != (n+7)/8) {
			t.Errorf("New(%d): %d left", n, a.Left())
		}
	}
	for i, x := range []struct {
		n    int
		bits []byte
		e    api.Errno
	}{{10, []byte{15, 0}, api.OK}, {10, []byte{255, 3}, api.OK}, {10, []byte{0, 4}, api.ErrForm}, {10, []byte{0, 128}, api.ErrForm}, {10, []byte{0}, api.ErrForm}, {10, []byte{0, 0, 0}, api.ErrForm}, {8, []byte{255}, api.OK}, {8, nil, api.ErrForm}, {1, []byte{1}, api.OK}, {1, []byte{2}, api.ErrForm}, {0, nil, api.ErrArg}} {
		a, e := alloc.Load(x.n, x.bits)
		if e != x.e || (a == nil) != (e != api.OK) {
			t.Errorf("%d: Load: %d, want %d", i, e, x.e)
		}
		if e == api.OK && !bytes.Equal(a.Bits(), x.bits) {
			t.Errorf("%d: Bits: %x", i, a.Bits())
		}
	}
	a, _ := alloc.Load(10, []byte{0x81, 2})
	if u := a.Used(); !slices.Equal(u, []int{0, 7, 9}) || a.Left() != 7 {
		t.Errorf("Used: %v, %d left", u, a.Left())
	}
}

func TestP8_2Take(t *testing.T) {
	a := made(t, 10)
	take := func(want int, we api.Errno, i int, e api.Errno) {
		t.Helper()
		if i != want || e != we {
			t.Errorf("%d %d, want %d %d", i, e, want, we)
		}
	}
	i, e := a.Take()
	take(0, api.OK, i, e)
	i, e = a.Take()
	take(1, api.OK, i, e)
	if a.Give(0) != api.OK {
		t.Error("Give(0)")
	}
	i, e = a.TakeRun(2)
	take(2, api.OK, i, e)
	if u := a.Used(); !slices.Equal(u, []int{1, 2, 3}) {
		t.Errorf("Used: %v", u)
	}
	i, e = a.Take()
	take(0, api.OK, i, e)
	if !bytes.Equal(a.Bits(), []byte{15, 0}) || a.Left() != 6 {
		t.Errorf("Bits: %x, %d left", a.Bits(), a.Left())
	}
	for n, want := range map[int]api.Errno{0: api.ErrArg, -1: api.ErrArg, -1 << 63: api.ErrArg, 7: api.ErrFull, 11: api.ErrFull, 1<<63 - 1: api.ErrFull} {
		i, e = a.TakeRun(n)
		take(0, want, i, e)
	}
	i, e = a.TakeRun(6)
	take(4, api.OK, i, e)
	i, e = a.Take()
	take(0, api.ErrFull, i, e)
	i, e = a.TakeRun(1)
	take(0, api.ErrFull, i, e)
	a.Give(9)
	a.Give(7)
	i, e = a.TakeRun(2)
	take(0, api.ErrFull, i, e)
	i, e = a.Take()
	take(7, api.OK, i, e)
	for i, want := range map[int]api.Errno{-1: api.ErrNone, 10: api.ErrNone, 1 << 40: api.ErrNone, 0: api.ErrTwice, 9: api.OK} {
		if e := a.Mark(i); e != want {
			t.Errorf("Mark(%d): %d", i, e)
		}
	}
	a.Give(3)
	for i, want := range map[int]api.Errno{-1: api.ErrNone, 10: api.ErrNone, 3: api.ErrNone, 4: api.OK, -1 << 62: api.ErrNone} {
		if e := a.Give(i); e != want {
			t.Errorf("Give(%d): %d", i, e)
		}
	}
}

func TestP8_3Has(t *testing.T) {
	a := made(t, 9)
	a.Mark(8)
	a.Mark(0)
	for i := -2; i < 20; i++ {
		if a.Has(i) != (i == 0 || i == 8) {
			t.Errorf("Has(%d)", i)
		}
	}
	if u := a.Used(); !slices.Equal(u, []int{0, 8}) || a.Left() != 7 {
		t.Errorf("Used: %v, %d left", u, a.Left())
	}
	if a.Has(1 << 40) {
		t.Error("Has")
	}
}

func TestP8_4Follows(t *testing.T) {
	r := rand.New(rand.NewSource(1))
	for _, places := range []int{1, 7, 8, 9, 100, 1024} {
		a := made(t, places)
		want := make([]bool, places)
		run := func(n int) int {
			for i := 0; i+n <= places; i++ {
				if !slices.Contains(want[i:i+n], true) {
					return i
				}
			}
			return -1
		}
		for range 2000 {
			i, n := r.Intn(places), 1+r.Intn(1+places/20)
			switch r.Intn(4) {
			case 0:
				n = 1
				fallthrough
			case 1:
				w := run(n)
				at, e := a.TakeRun(n)
				if w < 0 && (at != 0 || e != api.ErrFull) || w >= 0 && (at != w || e != api.OK) {
					t.Fatalf("TakeRun(%d): %d %d, want %d", n, at, e, w)
				}
				for j := 0; w >= 0 && j < n; j++ {
					want[w+j] = true
				}
			case 2:
				if e := a.Mark(i); (e == api.OK) == want[i] {
					t.Fatalf("Mark(%d): %d", i, e)
				}
				want[i] = true
			case 3:
				if e := a.Give(i); (e == api.OK) != want[i] {
					t.Fatalf("Give(%d): %d", i, e)
				}
				want[i] = false
			}
			var used []int
			for i, w := range want {
				if w {
					used = append(used, i)
				}
			}
			if !slices.Equal(a.Used(), used) || a.Left() != places-len(used) {
				t.Fatalf("Used: %v, want %v", a.Used(), used)
			}
		}
		b, e := alloc.Load(places, a.Bits())
		if e != api.OK || !slices.Equal(a.Used(), b.Used()) || a.Left() != b.Left() {
			t.Errorf("Load of Bits: %d", e)
		}
		c := a.Clone()
		was := a.Used()
		for c.Left() > 0 {
			c.Take()
		}
		if !slices.Equal(a.Used(), was) {
			t.Error("a clone is not another one")
		}
		bits := a.Bits()
		bits[0] ^= 1
		if !slices.Equal(a.Used(), was) {
			t.Error("Bits shares memory")
		}
	}
}
