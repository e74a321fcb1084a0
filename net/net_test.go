package net_test

import (
	"bytes"
	"math/rand"
	"testing"

	"sumpter/api"
	"sumpter/net"
)

func same(a, b []net.Letter) bool {
	if len(a) != len(b) {
		return false
	}
	for i := range a {
		if a[i].From != b[i].From || a[i].To != b[i].To || !bytes.Equal(a[i].Bytes, b[i].Bytes) {
			return false
		}
	}
	return true
}

func letter(from, to int, s string) net.Letter {
	return net.Letter{From: from, To: to, Bytes: []byte(s)}
}

func TestP7_1New(t *testing.T) {
	n := net.New()
	if n.Len() != 0 || len(n.All()) != 0 {
		t.Error("a new one")
	}
	n.Send(1, 0, []byte("a"))
	n.Send(2, 3, nil)
	if n.Len() != 2 || !same(n.All(), []net.Letter{letter(1, 0, "a"), letter(2, 3, "")}) {
		t.Errorf("All: %v", n.All())
	}
	n.All()[0].Bytes[0] = 'x'
	if n.All()[0].Bytes[0] != 'a' {
		t.Error("All shares memory")
	}
}

func TestP7_2Send(t *testing.T) {
	n := net.New()
	for i, x := range []struct {
		from, to, size int
		e              api.Errno
	}{{-1, 0, 0, api.ErrArg}, {0, -1, 9999, api.ErrArg}, {0, 0, 4104, api.ErrLong}, {0, 0, 4103, api.OK}, {1 << 40, 7, 0, api.OK}} {
		if e := n.Send(x.from, x.to, make([]byte, x.size)); e != x.e {
			t.Errorf("%d: Send: %d, want %d", i, e, x.e)
		}
	}
	b := []byte("a")
	for n.Len() < 128 {
		if e := n.Send(1, 2, b); e != api.OK {
			t.Fatalf("Send: %d", e)
		}
	}
	b[0] = 'x'
	if string(n.All()[127].Bytes) != "a" {
		t.Error("what is handed in is kept")
	}
	for i, e := range []api.Errno{n.Send(1, 2, b), n.Send(-1, 2, b), n.Send(1, 2, make([]byte, 4104)), n.Double(0), n.Double(128)} {
		if want := []api.Errno{api.ErrFull, api.ErrArg, api.ErrLong, api.ErrFull, api.ErrNone}[i]; e != want {
			t.Errorf("%d: a full one: %d, want %d", i, e, want)
		}
	}
	if n.Len() != 128 {
		t.Errorf("Len: %d", n.Len())
	}
}

func TestP7_2Others(t *testing.T) {
	n := net.New()
	n.Send(1, 0, []byte("a"))
	n.Send(2, 0, []byte("b"))
	if e := n.Double(0); e != api.OK {
		t.Errorf("Double: %d", e)
	}
	if l, e := n.Take(1); e != api.OK || !same([]net.Letter{l}, []net.Letter{letter(2, 0, "b")}) {
		t.Errorf("Take: %v %d", l, e)
	}
	if !same(n.All(), []net.Letter{letter(1, 0, "a"), letter(1, 0, "a")}) {
		t.Errorf("All: %v", n.All())
	}
	for _, i := range []int{-1, 2, 5, 1 << 40} {
		l, e := n.Take(i)
		if e != api.ErrNone || l.Bytes != nil || l.From != 0 || n.Drop(i) != api.ErrNone || n.Double(i) != api.ErrNone || n.Spoil(i, make([]byte, 4104)) != api.ErrNone {
			t.Errorf("letter %d: %d", i, e)
		}
	}
	b := []byte("q")
	if n.Spoil(1, make([]byte, 4104)) != api.ErrLong || n.Spoil(1, b) != api.OK {
		t.Error("Spoil")
	}
	b[0] = 'x'
	if !same(n.All(), []net.Letter{letter(1, 0, "a"), letter(1, 0, "q")}) {
		t.Errorf("behind Spoil: %v", n.All())
	}
	if e := n.Drop(0); e != api.OK || n.Len() != 1 {
		t.Errorf("Drop: %d", e)
	}
	if e := n.Spoil(0, make([]byte, 4103)); e != api.OK {
		t.Errorf("Spoil to the longest: %d", e)
	}
}

func TestP7_3Follows(t *testing.T) {
	r := rand.New(rand.NewSource(1))
	n := net.New()
	var want []net.Letter
	for i := range 20000 {
		at := r.Intn(132)
		switch r.Intn(7) {
		case 0, 1, 2:
			l := letter(r.Intn(5), r.Intn(5), string(rune('a'+i%26)))
			if n.Send(l.From, l.To, l.Bytes) == api.OK {
				want = append(want, l)
			}
		case 3:
			if l, e := n.Take(at); e == api.OK {
				if !same([]net.Letter{l}, want[at:at+1]) {
					t.Fatal("Take")
				}
				want = append(append([]net.Letter(nil), want[:at]...), want[at+1:]...)
			}
		case 4:
			if n.Drop(at) == api.OK {
				want = append(append([]net.Letter(nil), want[:at]...), want[at+1:]...)
			}
		case 5:
			if n.Double(at) == api.OK {
				want = append(want, letter(want[at].From, want[at].To, string(want[at].Bytes)))
			}
		case 6:
			if n.Spoil(at, []byte("zz")) == api.OK {
				want[at].Bytes = []byte("zz")
			}
		}
		if !same(n.All(), want) || n.Len() != len(want) {
			t.Fatalf("step %d: %v, want %v", i, n.All(), want)
		}
	}
	c := n.Clone()
	c.Spoil(0, []byte("clone"))
	c.Drop(1)
	if !same(n.All(), want) {
		t.Error("a clone is not another net")
	}
	n.Drop(0)
	if string(c.All()[0].Bytes) != "clone" {
		t.Error("a clone is not another net")
	}
}
