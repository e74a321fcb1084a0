package pages_test

import (
	"bytes"
	"math/rand"
	"slices"
	"testing"

	"sumpter/api"
	"sumpter/disk"
	"sumpter/pages"
)

func device(t *testing.T, n int) *disk.Disk {
	t.Helper()
	d, e := disk.New(n)
	if e != api.OK {
		t.Fatalf("disk.New(%d): %d", n, e)
	}
	return d
}

func made(t *testing.T, d *disk.Disk, first, count int) *pages.Store {
	t.Helper()
	s, e := pages.Make(d, first, count)
	if s == nil || e != api.OK {
		t.Fatalf("Make: %d", e)
	}
	return s
}

func opened(t *testing.T, d *disk.Disk, first, count int) *pages.Store {
	t.Helper()
	s, e := pages.Open(d, first, count)
	if s == nil || e != api.OK {
		t.Fatalf("Open: %d", e)
	}
	return s
}

func write(t *testing.T, s *pages.Store, b string, want int) {
	t.Helper()
	if id, e := s.Write([]byte(b)); id != want || e != api.OK {
		t.Fatalf("Write: %d %d, want %d", id, e, want)
	}
}

func reads(t *testing.T, s *pages.Store, id int, want string) {
	t.Helper()
	if b, e := s.Read(id); string(b) != want || e != api.OK {
		t.Fatalf("Read(%d): %q %d, want %q", id, b, e, want)
	}
}

func isErr(t *testing.T, got, want api.Errno) {
	t.Helper()
	if got != want {
		t.Errorf("%d, want %d", got, want)
	}
}

func TestP9_1Make(t *testing.T) {
	d := device(t, 100)
	down := device(t, 100)
	down.Crash("")
	for i, x := range []struct {
		d            *disk.Disk
		first, count int
		e            api.Errno
	}{{nil, 0, 12, api.ErrArg}, {d, -1, 12, api.ErrArg}, {d, 0, 11, api.ErrArg}, {d, 0, 101, api.ErrArg}, {d, 89, 12, api.ErrArg}, {d, 1 << 62, 1 << 62, api.ErrArg}, {d, 1<<63 - 1, 12, api.ErrArg}, {d, 12, 1<<63 - 1, api.ErrArg}, {down, 0, 12, api.ErrDown}, {down, 90, 12, api.ErrArg}} {
		s, e := pages.Make(x.d, x.first, x.count)
		o, f := pages.Open(x.d, x.first, x.count)
		if s != nil || o != nil || e != x.e || f != x.e {
			t.Errorf("%d: %d %d, want %d", i, e, f, x.e)
		}
	}
	for _, x := range [][3]int{{0, 12, 1}, {88, 12, 1}, {0, 19, 1}, {0, 20, 2}, {10, 60, 7}, {0, 100, 12}} {
		d := device(t, 100)
		if s, e := pages.Open(d, x[0], x[1]); s != nil || e != api.ErrDevice {
			t.Errorf("Open of noughts: %d", e)
		}
		s := made(t, d, x[0], x[1])
		if s.Left() != x[2] || s.Root() != 0 || len(s.Tag()) != 0 || len(s.Used()) != 0 {
			t.Errorf("%v: %d left", x, s.Left())
		}
		d.Crash("")
		d.Start()
		if o := opened(t, d, x[0], x[1]); o.Left() != x[2] || o.Root() != 0 || len(o.Tag()) != 0 || len(o.Used()) != 0 {
			t.Errorf("%v: %d left behind Open", x, o.Left())
		}
	}
	if s := made(t, device(t, 4096), 0, 4096); s.Left() != 511 {
		t.Errorf("the greatest one: %d left", s.Left())
	}
	for n := range 8 {
		d := device(t, 100)
		d.Fuse(n)
		if s, e := pages.Make(d, 0, 100); (s == nil) != (e != api.OK) || e != api.OK && e != api.ErrDown || n == 0 && e == api.OK {
			t.Errorf("Make with the fuse %d: %d", n, e)
		}
	}
}

func TestP9_1MakeAnew(t *testing.T) {
	d := device(t, 100)
	s := made(t, d, 5, 60)
	write(t, s, "x", 1)
	s.Commit(1, []byte("t"))
	s.Commit(1, []byte("u"))
	s = made(t, d, 5, 60)
	if s.Root() != 0 || len(s.Used()) != 0 || s.Left() != 7 {
		t.Error("an elder store stays")
	}
	d.Crash("")
	d.Start()
	if s = opened(t, d, 5, 60); s.Root() != 0 || len(s.Tag()) != 0 || len(s.Used()) != 0 {
		t.Error("an elder store stays")
	}
}

func TestP9_2Write(t *testing.T) {
	d := device(t, 60)
	s := made(t, d, 0, 60)
	for i, n := range []int{0, 1, 61, 62, 63, 64, 480} {
		b := bytes.Repeat([]byte{'a' + byte(i)}, n)
		write(t, s, string(b), i+1)
		reads(t, s, i+1, string(b))
	}
	long, e := s.Write(make([]byte, 481))
	isErr(t, e, api.ErrLong)
	full, e := s.Write(nil)
	isErr(t, e, api.ErrFull)
	if long != 0 || full != 0 {
		t.Errorf("with an error: %d, %d", long, full)
	}
	if s.Left() != 0 || !slices.Equal(s.Used(), []int{1, 2, 3, 4, 5, 6, 7}) {
		t.Errorf("Used: %v", s.Used())
	}
	for _, id := range []int{0, -1, 8, 1 << 40, -1 << 63} {
		b, e := s.Read(id)
		if b != nil || e != api.ErrPage || s.Free(id) != api.ErrPage {
			t.Errorf("the page %d: %d", id, e)
		}
	}
	isErr(t, s.Free(3), api.OK)
	isErr(t, s.Free(3), api.ErrPage)
	_, e = s.Read(3)
	isErr(t, e, api.ErrPage)
	write(t, s, "new", 3)
	b, _ := s.Read(3)
	b[0] = 'x'
	reads(t, s, 3, "new")
	d.Crash("")
	_, e = s.Read(3)
	isErr(t, e, api.ErrDown)
	s.Free(3)
	id, e := s.Write(nil)
	isErr(t, e, api.ErrDown)
	if id != 0 {
		t.Errorf("with an error: %d", id)
	}
	_, e = s.Write(make([]byte, 481))
	isErr(t, e, api.ErrLong)
	isErr(t, s.Commit(0, nil), api.ErrDown)
}

func TestP9_3Commit(t *testing.T) {
	s := made(t, device(t, 60), 0, 60)
	write(t, s, "one", 1)
	write(t, s, "two", 2)
	isErr(t, s.Commit(3, make([]byte, 25)), api.ErrPage)
	isErr(t, s.Commit(-1, nil), api.ErrPage)
	isErr(t, s.Commit(1<<40, nil), api.ErrPage)
	isErr(t, s.Commit(2, make([]byte, 25)), api.ErrLong)
	if s.Root() != 0 {
		t.Error("a Commit that is refused does something")
	}
	tag := []byte("t")
	isErr(t, s.Commit(2, tag), api.OK)
	tag[0] = 'x'
	s.Tag()[0] = 'y'
	if s.Root() != 2 || string(s.Tag()) != "t" || s.Left() != 5 {
		t.Errorf("%d %q %d", s.Root(), s.Tag(), s.Left())
	}
	isErr(t, s.Free(1), api.OK)
	if s.Left() != 5 {
		t.Error("a page that is kept is not free")
	}
	write(t, s, "three", 3)
	s.Revert()
	if !slices.Equal(s.Used(), []int{1, 2}) || s.Left() != 5 {
		t.Errorf("behind Revert: %v", s.Used())
	}
	reads(t, s, 1, "one")
	s.Free(1)
	isErr(t, s.Commit(2, nil), api.OK)
	if len(s.Tag()) != 0 || s.Left() != 6 {
		t.Errorf("Tag: %q, %d left", s.Tag(), s.Left())
	}
	write(t, s, "new", 1)
	isErr(t, s.Commit(0, make([]byte, 24)), api.OK)
	if s.Root() != 0 || len(s.Tag()) != 24 {
		t.Error("Commit of no root")
	}
	reads(t, s, 1, "new")
	reads(t, s, 2, "two")
}

// state is what a store tells.
type state struct {
	root  int
	tag   string
	pages map[int]string
}

func (a state) is(b state) bool {
	if a.root != b.root || a.tag != b.tag || len(a.pages) != len(b.pages) {
		return false
	}
	for id, s := range a.pages {
		if c, ok := b.pages[id]; !ok || c != s {
			return false
		}
	}
	return true
}

func copied(p map[int]string) map[int]string {
	c := map[int]string{}
	for id, s := range p {
		c[id] = s
	}
	return c
}

func stateOf(t *testing.T, s *pages.Store) state {
	t.Helper()
	x := state{root: s.Root(), tag: string(s.Tag()), pages: map[int]string{}}
	for _, id := range s.Used() {
		b, e := s.Read(id)
		if e != api.OK {
			t.Fatalf("Read(%d): %d", id, e)
		}
		x.pages[id] = string(b)
	}
	return x
}

// scene does things to a store and to a model, till the device goes down: the last commit, and that under way.
func scene(t *testing.T, r *rand.Rand, s *pages.Store, last state, steps int) (state, state) {
	now := state{pages: copied(last.pages)}
	total := s.Left() + len(s.Used())
	for range steps {
		var ids []int
		for id := range now.pages {
			ids = append(ids, id)
		}
		slices.Sort(ids)
		switch r.Intn(6) {
		case 0, 1, 2:
			b := make([]byte, r.Intn(481))
			r.Read(b)
			want := 1
			for now.pages[want] != "" || last.pages[want] != "" {
				want++
			}
			b = append(b[:max(0, len(b)-1)], 'x')
			id, e := s.Write(b)
			if e == api.ErrDown {
				return last, last
			}
			if want > total {
				isErr(t, e, api.ErrFull)
				continue
			}
			if id != want || e != api.OK {
				t.Fatalf("Write: %d %d, want %d", id, e, want)
			}
			now.pages[id] = string(b)
		case 3:
			if len(ids) > 0 {
				id := ids[r.Intn(len(ids))]
				isErr(t, s.Free(id), api.OK)
				delete(now.pages, id)
			}
		case 4:
			now.root, now.tag = 0, string([]byte("0123456789abcdefghijklmn")[:r.Intn(25)])
			if len(ids) > 0 {
				now.root = ids[r.Intn(len(ids))]
			}
			next := state{now.root, now.tag, copied(now.pages)}
			if e := s.Commit(now.root, []byte(now.tag)); e != api.OK {
				isErr(t, e, api.ErrDown)
				return last, next
			}
			last = next
		case 5:
			if r.Intn(3) == 0 {
				s.Revert()
				now.pages = copied(last.pages)
			}
		}
		used := len(now.pages)
		for id := range last.pages {
			if _, ok := now.pages[id]; !ok {
				used++
			}
		}
		if s.Left() != total-used || s.Root() != last.root || string(s.Tag()) != last.tag {
			t.Fatalf("Left: %d, want %d; root %d, tag %q", s.Left(), total-used, s.Root(), s.Tag())
		}
		if got := stateOf(t, s); !got.is(state{last.root, last.tag, now.pages}) {
			t.Fatal("what is in use is not as it was written")
		}
	}
	return last, last
}

func TestP9_4Left(t *testing.T) {
	r := rand.New(rand.NewSource(1))
	for range 30 {
		s := made(t, device(t, 200), 7, 100)
		scene(t, r, s, state{}, 100)
	}
}

func TestP9_5Falls(t *testing.T) {
	r := rand.New(rand.NewSource(2))
	for range 400 {
		d := device(t, 120)
		s := made(t, d, 3, 100)
		last := state{pages: map[int]string{}}
		for range 8 {
			d.Fuse(r.Intn(60))
			var next state
			last, next = scene(t, r, s, last, 40)
			mask := make([]byte, r.Intn(100))
			r.Read(mask)
			d.Crash(string(mask))
			d.Start()
			s = opened(t, d, 3, 100)
			got := stateOf(t, s)
			if !got.is(last) && !got.is(next) {
				t.Fatalf("behind a fall: %v, want %v or %v", got, last, next)
			}
			last = got
		}
	}
}

func TestP9_5EachWay(t *testing.T) {
	// Each act of a Commit fails, and each part of what waits survives, two falls one behind the other.
	for fuse := range 20 {
		for mask := range 64 {
			d := device(t, 60)
			s := made(t, d, 0, 60)
			write(t, s, "one", 1)
			isErr(t, s.Commit(1, []byte("1")), api.OK)
			write(t, s, "two", 2)
			s.Free(1)
			d.Fuse(fuse)
			e := s.Commit(2, []byte("2"))
			bits := func(m int) string {
				var b []byte
				for i := range 6 {
					b = append(b, byte(m>>uint(i)&1))
				}
				return string(b)
			}
			d.Crash(bits(mask))
			d.Start()
			s = opened(t, d, 0, 60)
			was := stateOf(t, s)
			one, two := state{1, "1", map[int]string{1: "one"}}, state{2, "2", map[int]string{2: "two"}}
			if e == api.OK && !was.is(two) || e != api.OK && !was.is(one) && !was.is(two) {
				t.Fatalf("fuse %d, mask %x: %v", fuse, mask, was)
			}
			d.Fuse(2)
			e = s.Commit(0, []byte("3"))
			d.Crash(bits(63 - mask))
			d.Start()
			if got := stateOf(t, opened(t, d, 0, 60)); !(got.is(was) && e != api.OK) && !got.is(state{0, "3", was.pages}) {
				t.Fatalf("fuse %d, mask %x: %v behind %v", fuse, mask, got, was)
			}
		}
	}
}
