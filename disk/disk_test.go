package disk_test

import (
	"bytes"
	"math/rand"
	"slices"
	"testing"

	"sumpter/api"
	"sumpter/disk"
)

func full(c byte) []byte { return bytes.Repeat([]byte{c}, 64) }

func made(t *testing.T, n int) *disk.Disk {
	d, e := disk.New(n)
	if d == nil || e != api.OK {
		t.Fatalf("New(%d): %d", n, e)
	}
	return d
}

func reads(t *testing.T, d *disk.Disk, i int, c byte) {
	t.Helper()
	if b, e := d.Read(i); !bytes.Equal(b, full(c)) || e != api.OK {
		t.Fatalf("Read(%d): %x %d, want all %x", i, b, e, c)
	}
}

func TestP6_1New(t *testing.T) {
	for n, want := range map[int]api.Errno{0: api.ErrArg, -1: api.ErrArg, 1: api.OK, 4096: api.OK, 4097: api.ErrArg, -1 << 63: api.ErrArg} {
		d, e := disk.New(n)
		if e != want || (d == nil) != (e != api.OK) {
			t.Errorf("New(%d): %d", n, e)
		}
	}
	d := made(t, 5)
	if d.Sectors() != 5 || !d.Up() || len(d.Waits()) != 0 {
		t.Error("a new one")
	}
	for i := range 5 {
		reads(t, d, i, 0)
	}
}

func TestP6_2Read(t *testing.T) {
	d := made(t, 3)
	for _, i := range []int{-1, 3, 4096, 1 << 40} {
		if b, e := d.Read(i); b != nil || e != api.ErrSector {
			t.Errorf("Read(%d): %d", i, e)
		}
	}
	d.Write(2, full('a'))
	d.Sync()
	reads(t, d, 2, 'a')
	d.Write(2, full('b'))
	reads(t, d, 2, 'b')
	b, _ := d.Read(2)
	b[0] = 'x'
	reads(t, d, 2, 'b')
	d.Crash("")
	for _, i := range []int{2, 3} {
		if b, e := d.Read(i); b != nil || e != api.ErrDown {
			t.Errorf("Read(%d) while down: %d", i, e)
		}
	}
}

func TestP6_3Write(t *testing.T) {
	d := made(t, 3)
	for i, x := range []struct {
		i int
		n int
		e api.Errno
	}{{-1, 64, api.ErrSector}, {3, 1, api.ErrSector}, {0, 63, api.ErrLong}, {0, 65, api.ErrLong}, {0, 0, api.ErrLong}, {2, 64, api.OK}} {
		if e := d.Write(x.i, make([]byte, x.n)); e != x.e {
			t.Errorf("%d: Write: %d", i, e)
		}
	}
	if w := d.Waits(); !slices.Equal(w, []int{2}) {
		t.Errorf("Waits: %v", w)
	}
	b := full('a')
	d.Write(0, b)
	b[0] = 'x'
	reads(t, d, 0, 'a')
	d.Write(0, full('c'))
	if w := d.Waits(); !slices.Equal(w, []int{0, 2}) {
		t.Errorf("Waits: %v", w)
	}
	if e := d.Sync(); e != api.OK || len(d.Waits()) != 0 {
		t.Errorf("Sync: %d", e)
	}
	d.Write(0, full('c'))
	if w := d.Waits(); !slices.Equal(w, []int{0}) {
		t.Errorf("Waits of the same bytes: %v", w)
	}
	d.Crash("")
	if e := d.Write(0, full('d')); e != api.ErrDown {
		t.Errorf("Write while down: %d", e)
	}
	if e := d.Write(9, nil); e != api.ErrDown {
		t.Errorf("Write while down: %d", e)
	}
	if e := d.Sync(); e != api.ErrDown {
		t.Errorf("Sync while down: %d", e)
	}
	d.Start()
	reads(t, d, 0, 'c')
}

func TestP6_4Fuse(t *testing.T) {
	d := made(t, 4)
	d.Fuse(2)
	for i, e := range []api.Errno{d.Write(0, full('a')), d.Write(9, full('a')), d.Write(0, nil), d.Sync(), d.Write(1, full('b'))} {
		if want := []api.Errno{api.OK, api.ErrSector, api.ErrLong, api.OK, api.ErrDown}[i]; e != want {
			t.Errorf("%d: %d, want %d", i, e, want)
		}
	}
	if d.Up() || len(d.Waits()) != 0 {
		t.Error("it is up")
	}
	d.Start()
	reads(t, d, 0, 'a')
	reads(t, d, 1, 0)
	for range 10 {
		if d.Write(1, full('c')) != api.OK {
			t.Fatal("a fuse stayed behind Start")
		}
	}
	d.Fuse(0)
	if e := d.Sync(); e != api.ErrDown || d.Up() {
		t.Errorf("Fuse(0): %d", e)
	}
	if w := d.Waits(); !slices.Equal(w, []int{1}) {
		t.Errorf("what waits goes on waiting: %v", w)
	}
	d.Crash("\x01")
	d.Start()
	reads(t, d, 1, 'c')
	d.Fuse(1)
	d.Fuse(-5)
	for range 5 {
		if d.Sync() != api.OK {
			t.Fatal("no fuse")
		}
	}
	d.Fuse(1)
	d.Crash("")
	d.Fuse(0)
	d.Start()
	if d.Sync() != api.OK || d.Sync() != api.OK {
		t.Error("Start takes the fuse away")
	}
}

func TestP6_5Crash(t *testing.T) {
	d := made(t, 4)
	d.Write(3, full('b'))
	d.Write(1, full('a'))
	if w := d.Waits(); !slices.Equal(w, []int{1, 3}) {
		t.Errorf("Waits: %v", w)
	}
	d.Crash("\x00\x01")
	if d.Up() || len(d.Waits()) != 0 {
		t.Error("it is up")
	}
	d.Start()
	if !d.Up() {
		t.Error("it is down")
	}
	reads(t, d, 1, 0)
	reads(t, d, 3, 'b')
	d.Write(0, full('x'))
	d.Start()
	if w := d.Waits(); !slices.Equal(w, []int{0}) {
		t.Error("Start of one that is up")
	}
	for i := range 4 {
		d.Write(i, full('k'))
	}
	d.Crash("\xfe30")
	d.Start()
	for i, c := range []byte{0, 'k', 0, 'b'} {
		reads(t, d, i, c)
	}
	d.Write(1, full(0))
	d.Crash("1")
	d.Start()
	reads(t, d, 1, 0)
}

func TestP6_6Follows(t *testing.T) {
	r := rand.New(rand.NewSource(1))
	for range 100 {
		d := made(t, 8)
		var safe, last [8]byte
		for range 60 {
			i, c := r.Intn(8), byte(r.Intn(4))
			switch r.Intn(6) {
			case 0:
				d.Sync()
				safe = last
			case 1:
				mask := make([]byte, r.Intn(9))
				r.Read(mask)
				waits := d.Waits()
				d.Crash(string(mask))
				d.Start()
				for n, w := range waits {
					if n < len(mask) && mask[n]&1 == 1 {
						safe[w] = last[w]
					}
				}
				last = safe
			default:
				d.Write(i, full(c))
				last[i] = c
			}
			for i, c := range last {
				reads(t, d, i, c)
			}
		}
		c := d.Clone()
		c.Write(0, full('q'))
		c.Sync()
		reads(t, d, 0, last[0])
		d.Crash("")
		if !c.Up() || c.Sectors() != 8 {
			t.Fatal("a clone falls, too")
		}
		reads(t, c, 0, 'q')
		reads(t, c, 7, last[7])
	}
	d := made(t, 2)
	d.Write(0, full('a'))
	d.Fuse(1)
	c := d.Clone()
	d.Sync()
	if w := c.Waits(); !slices.Equal(w, []int{0}) {
		t.Errorf("a clone's Waits: %v", w)
	}
	if c.Sync() != api.OK || c.Sync() != api.ErrDown || !d.Up() {
		t.Error("a clone's fuse")
	}
}
