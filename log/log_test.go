package log_test

import (
	"bytes"
	"math/rand"
	"testing"

	"sumpter/api"
	"sumpter/disk"
	"sumpter/log"
)

func device(t *testing.T, n int) *disk.Disk {
	t.Helper()
	d, e := disk.New(n)
	if e != api.OK {
		t.Fatalf("disk.New(%d): %d", n, e)
	}
	return d
}

func made(t *testing.T, d *disk.Disk, first, count int) *log.Log {
	t.Helper()
	l, e := log.Make(d, first, count)
	if l == nil || e != api.OK {
		t.Fatalf("Make: %d", e)
	}
	return l
}

func opened(t *testing.T, d *disk.Disk, first, count int) *log.Log {
	t.Helper()
	l, e := log.Open(d, first, count)
	if l == nil || e != api.OK {
		t.Fatalf("Open: %d", e)
	}
	return l
}

func isErr(t *testing.T, got, want api.Errno) {
	t.Helper()
	if got != want {
		t.Errorf("%d, want %d", got, want)
	}
}

func appends(t *testing.T, l *log.Log, s string, want uint64) {
	t.Helper()
	if lsn, e := l.Append([]byte(s)); lsn != want || e != api.OK {
		t.Fatalf("Append: %d %d, want %d", lsn, e, want)
	}
}

// tells compares what a log tells: First, Next, Safe, and all records.
func tells(t *testing.T, l *log.Log, first, safe uint64, recs ...string) {
	t.Helper()
	next := first + uint64(len(recs))
	if l.First() != first || l.Next() != next || l.Safe() != safe {
		t.Fatalf("First %d, Next %d, Safe %d; want %d, %d, %d", l.First(), l.Next(), l.Safe(), first, next, safe)
	}
	for from := first; from <= next; from++ {
		tail, e := l.Tail(from)
		if e != api.OK || len(tail) != int(next-from) {
			t.Fatalf("Tail(%d): %d of them, %d", from, len(tail), e)
		}
		for i, r := range tail {
			if r.Lsn != from+uint64(i) || string(r.Bytes) != recs[from-first+uint64(i)] {
				t.Fatalf("Tail(%d): %d is %q", from, r.Lsn, r.Bytes)
			}
		}
	}
	for _, from := range []uint64{first - 1, next + 1, 0, 1<<64 - 1} {
		if tail, e := l.Tail(from); tail != nil || e != api.ErrRange {
			t.Fatalf("Tail(%d): %d", from, e)
		}
	}
}

func TestP11_1Make(t *testing.T) {
	d := device(t, 100)
	down := device(t, 100)
	down.Crash("")
	for i, x := range []struct {
		d            *disk.Disk
		first, count int
		e            api.Errno
	}{{nil, 0, 12, api.ErrArg}, {d, -1, 12, api.ErrArg}, {d, 0, 11, api.ErrArg}, {d, 0, 101, api.ErrArg}, {d, 89, 12, api.ErrArg}, {d, 1 << 62, 1 << 62, api.ErrArg}, {d, 1<<63 - 1, 12, api.ErrArg}, {d, 12, 1<<63 - 1, api.ErrArg}, {down, 0, 12, api.ErrDown}, {down, 90, 12, api.ErrArg}} {
		l, e := log.Make(x.d, x.first, x.count)
		o, f := log.Open(x.d, x.first, x.count)
		if l != nil || o != nil || e != x.e || f != x.e {
			t.Errorf("%d: %d %d, want %d", i, e, f, x.e)
		}
	}
	for _, x := range [][2]int{{0, 12}, {88, 12}, {10, 60}, {0, 100}} {
		d := device(t, 100)
		if l, e := log.Open(d, x[0], x[1]); l != nil || e != api.ErrDevice {
			t.Errorf("Open of noughts: %d", e)
		}
		tells(t, made(t, d, x[0], x[1]), 1, 1)
		d.Crash("")
		d.Start()
		tells(t, opened(t, d, x[0], x[1]), 1, 1)
	}
	for n := range 4 {
		d := device(t, 100)
		d.Fuse(n)
		if l, e := log.Make(d, 0, 100); (l == nil) != (e != api.OK) || e != api.OK && e != api.ErrDown || n == 0 && e == api.OK {
			t.Errorf("Make with the fuse %d: %d", n, e)
		}
	}
}

func TestP11_1MakeAnew(t *testing.T) {
	d := device(t, 100)
	l := made(t, d, 5, 60)
	for i := range 5 {
		appends(t, l, "elder", uint64(i+1))
	}
	isErr(t, l.Sync(), api.OK)
	isErr(t, l.Truncate(2), api.OK)
	isErr(t, l.Truncate(3), api.OK)
	tells(t, made(t, d, 5, 60), 1, 1)
	d.Crash("")
	d.Start()
	l = opened(t, d, 5, 60)
	tells(t, l, 1, 1)
	appends(t, l, "new", 1)
	l.Sync()
	tells(t, opened(t, d, 5, 60), 1, 2, "new")
}

func TestP11_2Append(t *testing.T) {
	l := made(t, device(t, 100), 0, 20) // room for 16
	big := string(make([]byte, 599))
	lsn, e := l.Append(make([]byte, 10241))
	isErr(t, e, api.ErrLong)
	full, e := l.Append(make([]byte, 640))
	isErr(t, e, api.ErrFull)
	if lsn != 0 || full != 0 {
		t.Errorf("with an error: %d, %d", lsn, full)
	}
	appends(t, l, big, 1) // 15 of them
	_, e = l.Append(make([]byte, 40))
	isErr(t, e, api.ErrFull)
	appends(t, l, string(make([]byte, 39)), 2)
	_, e = l.Append(nil)
	isErr(t, e, api.ErrFull)
	tells(t, l, 1, 1, big, string(make([]byte, 39)))
	isErr(t, l.Sync(), api.OK)
	isErr(t, l.Truncate(2), api.OK)
	_, e = l.Append(make([]byte, 600))
	isErr(t, e, api.ErrFull)
	for i := range 7 {
		appends(t, l, string(bytes.Repeat([]byte{byte(i)}, 40)), uint64(3+i))
	}
	appends(t, l, "", 10)
	_, e = l.Append(nil)
	isErr(t, e, api.ErrFull)
	big = string(bytes.Repeat([]byte("0123456789"), 1024))
	d := device(t, 300)
	l = made(t, d, 0, 300)
	b := []byte(big)
	if lsn, e := l.Append(b); lsn != 1 || e != api.OK {
		t.Fatalf("the greatest one: %d", e)
	}
	b[0] = 'x'
	tail, _ := l.Tail(1)
	tail[0].Bytes[1] = 'x'
	tells(t, l, 1, 1, big)
	d.Crash("")
	lsn, e = l.Append(nil)
	isErr(t, e, api.ErrDown)
	if lsn != 0 {
		t.Errorf("with an error: %d", lsn)
	}
	_, e = l.Append(make([]byte, 9999))
	isErr(t, e, api.ErrFull)
	_, e = l.Append(make([]byte, 10241))
	isErr(t, e, api.ErrLong)
}

func TestP11_3Truncate(t *testing.T) {
	d := device(t, 60)
	l := made(t, d, 0, 60)
	appends(t, l, "a", 1)
	isErr(t, l.Truncate(2), api.ErrRange)
	isErr(t, l.Truncate(0), api.ErrRange)
	isErr(t, l.Truncate(1), api.OK)
	appends(t, l, "b", 2)
	isErr(t, l.Sync(), api.OK)
	tells(t, l, 1, 3, "a", "b")
	appends(t, l, "c", 3)
	isErr(t, l.Truncate(4), api.ErrRange)
	isErr(t, l.Truncate(1<<64-1), api.ErrRange)
	isErr(t, l.Truncate(2), api.OK)
	tells(t, l, 2, 3, "b", "c")
	isErr(t, l.Truncate(1), api.ErrRange)
	isErr(t, l.Truncate(3), api.OK)
	tells(t, l, 3, 3, "c")
	isErr(t, l.Sync(), api.OK)
	isErr(t, l.Truncate(4), api.OK)
	tells(t, l, 4, 4)
	d.Crash("")
	isErr(t, l.Truncate(3), api.ErrRange)
	isErr(t, l.Truncate(4), api.ErrDown)
	isErr(t, l.Sync(), api.ErrDown)
	d.Start()
	tells(t, opened(t, d, 0, 60), 4, 4)
}

func TestP11_4Example(t *testing.T) {
	d := device(t, 60)
	l := made(t, d, 0, 60)
	appends(t, l, "a", 1)
	appends(t, l, "b", 2)
	tells(t, l, 1, 1, "a", "b")
	l.Sync()
	tells(t, l, 1, 3, "a", "b")
	isErr(t, l.Truncate(2), api.OK)
	tells(t, l, 2, 3, "b")
	appends(t, l, "c", 3)
	d.Crash("")
	d.Start()
	tells(t, opened(t, d, 0, 60), 2, 3, "b")
}

// model is what a log has to tell.
type model struct {
	first, safe uint64
	recs        []string
}

// scene does things till the device goes down: the model, and the First of a Truncate under way.
func scene(t *testing.T, r *rand.Rand, l *log.Log, m model, steps int) (model, uint64) {
	for range steps {
		switch r.Intn(5) {
		case 0, 1, 2:
			n := r.Intn(50)
			if r.Intn(3) == 0 {
				n = r.Intn(400)
			}
			b := bytes.Repeat([]byte{byte(r.Intn(256))}, n)
			lsn, e := l.Append(b)
			if e == api.ErrDown {
				// It may be there all the same.
				m.recs = append(m.recs, string(b))
				return m, m.first
			}
			if e == api.OK {
				m.recs = append(m.recs, string(b))
				if lsn != m.first+uint64(len(m.recs))-1 {
					t.Fatalf("Append: %d", lsn)
				}
			} else {
				isErr(t, e, api.ErrFull)
			}
		case 3:
			if l.Sync() != api.OK {
				return m, m.first
			}
			m.safe = m.first + uint64(len(m.recs))
		case 4:
			to := m.first + uint64(r.Intn(int(m.safe-m.first)+1))
			if l.Truncate(to) != api.OK {
				return m, to
			}
			m.recs = m.recs[to-m.first:]
			m.first = to
		}
	}
	return m, m.first
}

func TestP11_5WhateverSurvives(t *testing.T) {
	r := rand.New(rand.NewSource(2))
	for range 800 {
		count := 12 + r.Intn(50)
		d := device(t, 70)
		l := made(t, d, 3, count)
		m := model{first: 1, safe: 1}
		for range 10 {
			d.Fuse(r.Intn(50))
			var to uint64
			m, to = scene(t, r, l, m, 30)
			mask := make([]byte, r.Intn(60))
			switch r.Intn(3) {
			case 0:
				r.Read(mask)
			case 1:
				for i := range mask {
					mask[i] = 1
				}
				if len(mask) > 0 {
					mask[r.Intn(len(mask))] = 0
				}
			}
			d.Crash(string(mask))
			d.Start()
			l = opened(t, d, 3, count)
			if l.First() != m.first && l.First() != to {
				t.Fatalf("First: %d, want %d or %d", l.First(), m.first, to)
			}
			if l.Next() < m.safe || l.Next() > m.first+uint64(len(m.recs)) {
				t.Fatalf("Next: %d, want %d to %d", l.Next(), m.safe, m.first+uint64(len(m.recs)))
			}
			m = model{l.First(), l.Next(), m.recs[l.First()-m.first : l.Next()-m.first]}
			tells(t, l, m.first, m.safe, m.recs...)
		}
	}
}

func TestP11_5Stale(t *testing.T) {
	// What was left of records that were not safe is never taken for a part of others.
	for mask := range 256 {
		for second := range 64 {
			d := device(t, 60)
			l := made(t, d, 0, 60)
			appends(t, l, "safe", 1)
			l.Sync()
			a := []string{string(bytes.Repeat([]byte{'a'}, 100)), "b", string(bytes.Repeat([]byte{'c'}, 100)), "d"}
			for i, s := range a {
				appends(t, l, s, uint64(2+i))
			}
			bits := func(m int) string {
				var b []byte
				for i := range 8 {
					b = append(b, byte(m>>uint(i)&1))
				}
				return string(b)
			}
			d.Crash(bits(mask))
			d.Start()
			l = opened(t, d, 0, 60)
			n := int(l.Next() - 2)
			tells(t, l, 1, l.Next(), append([]string{"safe"}, a[:n]...)...)
			e := string(bytes.Repeat([]byte{'e'}, 100))
			appends(t, l, e, l.Next())
			d.Crash(bits(second))
			d.Start()
			l = opened(t, d, 0, 60)
			want := append([]string{"safe"}, a[:n]...)
			if int(l.Next()) == n+3 {
				want = append(want, e)
			}
			tells(t, l, 1, l.Next(), want...)
		}
	}
}
