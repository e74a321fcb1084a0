package engine_test

import (
	"bytes"
	"fmt"
	"math/rand"
	"slices"
	"strings"
	"testing"

	"sumpter/api"
	"sumpter/disk"
	"sumpter/engine"
	"sumpter/op"
	"sumpter/span"
)

func put(k, v string) api.Op    { return api.Op{Kind: api.Put, Key: k, Value: v} }
func del(k string) api.Op       { return api.Op{Kind: api.Del, Key: k} }
func wipe(lo, hi string) api.Op { return api.Op{Kind: api.Clear, Lo: lo, Hi: hi} }

func device(t *testing.T, n int) *disk.Disk {
	t.Helper()
	d, e := disk.New(n)
	if e != api.OK {
		t.Fatalf("disk.New(%d): %d", n, e)
	}
	return d
}

func made(t *testing.T, d *disk.Disk) *engine.Engine {
	t.Helper()
	x, e := engine.New(d)
	if x == nil || e != api.OK {
		t.Fatalf("New: %d", e)
	}
	return x
}

func opened(t *testing.T, d *disk.Disk) *engine.Engine {
	t.Helper()
	x, e := engine.Open(d)
	if x == nil || e != api.OK {
		t.Fatalf("Open: %d", e)
	}
	return x
}

func isErr(t *testing.T, got, want api.Errno) {
	t.Helper()
	if got != want {
		t.Errorf("%d, want %d", got, want)
	}
}

// state is what an engine tells.
type state struct {
	m    []api.Pair
	note string
}

func (s state) behind(l []api.Op, note string) state {
	m, _, _ := op.Apply(s.m, l)
	return state{m, note}
}

func (s state) is(o state) bool { return slices.Equal(s.m, o.m) && s.note == o.note }

func tells(t *testing.T, x *engine.Engine) state {
	t.Helper()
	m, e := x.Scan(api.Range{}, -1)
	if e != api.OK {
		t.Fatalf("Scan: %d", e)
	}
	return state{m, string(x.Note())}
}

func TestP15_1New(t *testing.T) {
	down := device(t, 800)
	down.Crash("")
	for i, x := range []struct {
		d *disk.Disk
		e api.Errno
	}{{nil, api.ErrArg}, {device(t, 767), api.ErrArg}, {down, api.ErrDown}} {
		a, e := engine.New(x.d)
		b, f := engine.Open(x.d)
		if a != nil || b != nil || e != x.e || f != x.e {
			t.Errorf("%d: %d %d, want %d", i, e, f, x.e)
		}
	}
	small := device(t, 767)
	small.Crash("")
	_, e := engine.New(small)
	isErr(t, e, api.ErrArg)
	for _, n := range []int{768, 2048, 4096} {
		d := device(t, n)
		if x, e := engine.Open(d); x != nil || e != api.ErrDevice {
			t.Errorf("Open of noughts: %d", e)
		}
		x := made(t, d)
		if s := tells(t, x); !s.is(state{}) {
			t.Errorf("New: %v", s)
		}
		d.Crash("")
		d.Start()
		if s := tells(t, opened(t, d)); !s.is(state{}) {
			t.Errorf("Open: %v", s)
		}
		isErr(t, x.Do([]api.Op{put("a", "1")}, []byte("n")), api.OK)
		isErr(t, x.Checkpoint(), api.OK)
		isErr(t, x.Do([]api.Op{put("b", "1")}, []byte("n")), api.OK)
		if s := tells(t, made(t, d)); !s.is(state{}) {
			t.Errorf("New anew: %v", s)
		}
		d.Crash("")
		d.Start()
		if s := tells(t, opened(t, d)); !s.is(state{}) {
			t.Errorf("New anew: %v", s)
		}
	}
	for n := range 12 {
		d := device(t, 768)
		d.Fuse(n)
		if x, e := engine.New(d); (x == nil) != (e != api.OK) || e != api.OK && e != api.ErrDown || n == 0 && e == api.OK {
			t.Errorf("New with the fuse %d: %d", n, e)
		}
	}
}

func TestP15_2Do(t *testing.T) {
	d := device(t, 768)
	x := made(t, d)
	many := slices.Repeat([]api.Op{put("a", "1")}, 65)
	long := make([]byte, 8193)
	for i, c := range []struct {
		l    []api.Op
		note []byte
		e    api.Errno
	}{
		{append(slices.Clone(many), api.Op{}), long, api.ErrMany}, {many, nil, api.ErrMany}, {[]api.Op{{Kind: api.Get, Key: "a"}}, long, api.ErrOp}, {[]api.Op{put("a", ""), {Kind: api.Scan, Most: 1}}, nil, api.ErrOp},
		{[]api.Op{{Kind: api.Get, Key: "a"}, put("", "")}, nil, api.ErrKey}, {[]api.Op{put("a", strings.Repeat("v", 17)), {}}, nil, api.ErrLong}, {[]api.Op{wipe("b", "a")}, nil, api.ErrRange}, {[]api.Op{{Kind: api.Scan}}, nil, api.ErrArg}, {[]api.Op{{Kind: 9}}, nil, api.ErrOp},
		{many[:64], long, api.ErrLong}, {nil, long, api.ErrLong},
	} {
		if e := x.Do(c.l, c.note); e != c.e {
			t.Errorf("%d: Do: %d, want %d", i, e, c.e)
		}
	}
	if s := tells(t, x); !s.is(state{}) {
		t.Errorf("what is refused does something: %v", s)
	}
	note := []byte("n")
	isErr(t, x.Do([]api.Op{put("a", "1"), put("b", "2"), del("a"), put("c", "3"), wipe("c", "d"), put("e", "")}, note), api.OK)
	note[0] = 'x'
	x.Note()[0] = 'y'
	want := state{[]api.Pair{{Key: "b", Value: "2"}, {Key: "e"}}, "n"}
	for range 2 {
		if s := tells(t, x); !s.is(want) {
			t.Errorf("Do: %v", s)
		}
		d.Crash("")
		d.Start()
		x = opened(t, d)
		isErr(t, x.Checkpoint(), api.OK)
	}
	isErr(t, x.Do(nil, nil), api.OK)
	isErr(t, x.Do(many[:64], make([]byte, 8192)), api.OK)
	if s := tells(t, x); len(s.m) != 3 || len(s.note) != 8192 {
		t.Errorf("the greatest one: %v", s)
	}
	d.Crash("")
	isErr(t, x.Do(nil, nil), api.ErrDown)
	isErr(t, x.Do(many, nil), api.ErrMany)
	isErr(t, x.Do(nil, long), api.ErrLong)
	isErr(t, x.Checkpoint(), api.ErrDown)
	_, _, e := x.Get("a")
	isErr(t, e, api.ErrDown)
	_, _, e = x.Get("")
	isErr(t, e, api.ErrKey)
	_, e = x.Scan(api.Range{}, 0)
	isErr(t, e, api.ErrDown)
	_, e = x.Scan(api.Range{Lo: "b", Hi: "a"}, 0)
	isErr(t, e, api.ErrRange)
}

// some are operations on at most so many keys.
func some(r *rand.Rand, keys, n int) []api.Op {
	key := func() string { return fmt.Sprintf("key%09d", r.Intn(keys)) }
	var l []api.Op
	for range n {
		switch r.Intn(12) {
		case 0:
			lo, hi := key(), key()
			if lo >= hi {
				hi = ""
			}
			l = append(l, wipe(lo, hi))
		case 1, 2, 3:
			l = append(l, del(key()))
		default:
			l = append(l, put(key(), strings.Repeat(string(rune('a'+r.Intn(26))), 16)))
		}
	}
	return l
}

func TestP15_2NotFull(t *testing.T) {
	// 40 pairs on the least device, with great notes, for a long time.
	r := rand.New(rand.NewSource(1))
	for _, keys := range []int{40, 40, 5} {
		d := device(t, 768)
		x := made(t, d)
		var want state
		for i := range 1500 {
			l := some(r, keys, r.Intn(65))
			if keys == 40 && r.Intn(3) == 0 {
				l = nil
				for k := range 40 {
					l = append(l, put(fmt.Sprintf("key%09d", k), strings.Repeat("v", 16)))
				}
			}
			note := bytes.Repeat([]byte{byte(i)}, []int{0, 10, 300, 8192}[r.Intn(4)])
			if e := x.Do(l, note); e != api.OK {
				t.Fatalf("step %d: Do: %d", i, e)
			}
			want = want.behind(l, string(note))
			if r.Intn(10) == 0 {
				if e := x.Checkpoint(); e != api.OK {
					t.Fatalf("step %d: Checkpoint: %d", i, e)
				}
			}
			if r.Intn(50) == 0 {
				d.Crash("")
				d.Start()
				x = opened(t, d)
			}
			if i%7 == 0 {
				if s := tells(t, x); !s.is(want) {
					t.Fatalf("step %d: %v, want %v", i, s, want)
				}
			}
		}
	}
}

func TestP15_2OtherKeys(t *testing.T) {
	// The map has few pairs, but ever other ones.
	d := device(t, 768)
	x := made(t, d)
	var want state
	for i := range 400 {
		l := []api.Op{wipe("", "")}
		for k := range 40 {
			l = append(l, put(fmt.Sprintf("k%d", (i*7919+k*104729)%1000000), strings.Repeat("v", 16)))
		}
		if i%3 == 0 {
			for k := range 10 {
				l = append(l, del(l[k*3+1].Key))
			}
		}
		if e := x.Do(l, []byte("note")); e != api.OK {
			t.Fatalf("step %d: %d", i, e)
		}
		want = want.behind(l, "note")
		if i%5 == 0 {
			isErr(t, x.Checkpoint(), api.OK)
		}
	}
	if s := tells(t, x); !s.is(want) {
		t.Error("the map is another one")
	}
}

func TestP15_2Full(t *testing.T) {
	// A map that is too great is refused, and what is there stays.
	for _, n := range []int{768, 2048} {
		d := device(t, n)
		x := made(t, d)
		var want state
		full := false
		for i := 0; i < 5000 && !full; i++ {
			l := []api.Op{put(fmt.Sprintf("%012d", (i*7919)%1000003), strings.Repeat("v", 16))}
			switch e := x.Do(l, []byte("n")); e {
			case api.OK:
				want = want.behind(l, "n")
			case api.ErrFull:
				full = true
			default:
				t.Fatalf("Do: %d", e)
			}
		}
		if !full || len(want.m) < 41 {
			t.Errorf("full with %d pairs", len(want.m))
		}
		if s := tells(t, x); !s.is(want) {
			t.Error("behind ErrFull the map is another one")
		}
		d.Crash("")
		d.Start()
		if s := tells(t, opened(t, d)); !s.is(want) {
			t.Error("behind ErrFull and a fall the map is another one")
		}
	}
}

func TestP15_3Get(t *testing.T) {
	r := rand.New(rand.NewSource(2))
	d := device(t, 2048)
	x := made(t, d)
	var want state
	for i := range 120 {
		l := some(r, 100, r.Intn(20))
		isErr(t, x.Do(l, nil), api.OK)
		want = want.behind(l, "")
		if i%20 == 19 {
			isErr(t, x.Checkpoint(), api.OK)
		}
		for range 20 {
			k := fmt.Sprintf("key%09d", r.Intn(100))
			_, res, _ := op.Apply(want.m, []api.Op{{Kind: api.Get, Key: k}})
			if v, is, e := x.Get(k); v != res[0].Value || is != res[0].Found || e != api.OK {
				t.Fatalf("Get(%q): %q %v %d, want %v", k, v, is, e, res[0])
			}
			in := api.Range{Lo: k}
			if hi := fmt.Sprintf("key%09d", r.Intn(100)); hi > k {
				in.Hi = hi
			}
			most := r.Intn(12) - 2
			var ps []api.Pair
			for _, p := range want.m {
				if span.Has(in, p.Key) && (most < 0 || len(ps) < most) {
					ps = append(ps, p)
				}
			}
			if got, e := x.Scan(in, most); !slices.Equal(got, ps) || e != api.OK {
				t.Fatalf("Scan(%q, %d): %v %d, want %v", in, most, got, e, ps)
			}
		}
	}
	for _, k := range []string{"", strings.Repeat("k", 13)} {
		if v, is, e := x.Get(k); v != "" || is || e != api.ErrKey {
			t.Errorf("Get(%q): %d", k, e)
		}
	}
	for _, in := range []api.Range{{Lo: "b", Hi: "a"}, {Lo: strings.Repeat("k", 13)}} {
		if l, e := x.Scan(in, 1); l != nil || e != api.ErrRange {
			t.Errorf("Scan(%q): %d", in, e)
		}
	}
}

func TestP15_4Falls(t *testing.T) {
	r := rand.New(rand.NewSource(3))
	for range 150 {
		d := device(t, 768)
		x := made(t, d)
		var want state
		for range 12 {
			d.Fuse(r.Intn(400))
			next := want
			for d.Up() {
				l := some(r, 40, r.Intn(12))
				note := string(bytes.Repeat([]byte{byte('a' + r.Intn(26))}, []int{0, 10, 300, 3000}[r.Intn(4)]))
				if r.Intn(8) == 0 {
					if e := x.Checkpoint(); e != api.OK {
						isErr(t, e, api.ErrDown)
					}
					continue
				}
				next = want.behind(l, note)
				e := x.Do(l, []byte(note))
				if e == api.OK {
					want = next
				} else {
					isErr(t, e, api.ErrDown)
				}
			}
			mask := make([]byte, r.Intn(300))
			r.Read(mask)
			if r.Intn(3) == 0 {
				mask = bytes.Repeat([]byte{1}, 4096)
				mask[r.Intn(20)] = 0
			}
			d.Crash(string(mask))
			d.Start()
			x = opened(t, d)
			s := tells(t, x)
			if !s.is(want) && !s.is(next) {
				t.Fatalf("behind a fall: %v, want %v or %v", s, want, next)
			}
			want = s
		}
	}
}

func TestP15_4EachAct(t *testing.T) {
	// The device falls at each act of a checkpoint, and of opening.
	r := rand.New(rand.NewSource(4))
	for fuse := range 60 {
		for range 6 {
			d := device(t, 768)
			x := made(t, d)
			var want state
			for range 20 {
				l := some(r, 30, 5)
				isErr(t, x.Do(l, []byte("note")), api.OK)
				want = want.behind(l, "note")
			}
			d.Fuse(fuse)
			x.Checkpoint()
			for range 3 {
				mask := make([]byte, 100)
				r.Read(mask)
				d.Crash(string(mask))
				d.Start()
				d.Fuse(r.Intn(3))
				if _, e := engine.Open(d); e != api.OK {
					isErr(t, e, api.ErrDown)
				}
			}
			d.Crash("")
			d.Start()
			if s := tells(t, opened(t, d)); !s.is(want) {
				t.Fatalf("fuse %d: %v, want %v", fuse, s, want)
			}
		}
	}
}
