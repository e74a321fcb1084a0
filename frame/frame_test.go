package frame_test

import (
	"bytes"
	"math/rand"
	"testing"

	"sumpter/api"
	"sumpter/frame"
	"sumpter/octet"
)

// sealed is some bytes with their sum behind them.
func sealed(b ...byte) []byte {
	sum := octet.Fixed(octet.Sum(b))
	return append(bytes.Clone(b), sum[:]...)
}

func bodies() [][]byte {
	r := rand.New(rand.NewSource(1))
	l := [][]byte{nil, {0}, {0x53}, []byte("abc")}
	for _, n := range []int{126, 127, 128, 129, 1000, 4095, 4096} {
		b := make([]byte, n)
		r.Read(b)
		l = append(l, b)
	}
	return l
}

func TestP5_1Seal(t *testing.T) {
	for _, b := range bodies() {
		want := sealed(append(append([]byte{0x53}, octet.Num(uint64(len(b)))...), b...)...)
		if got, e := frame.Seal(b); !bytes.Equal(got, want) || e != api.OK {
			t.Errorf("Seal of %d bytes: %x %d", len(b), got, e)
		}
	}
	if got, e := frame.Seal(nil); len(got) != 6 || got[0] != 0x53 || got[1] != 0 || e != api.OK {
		t.Errorf("Seal of nothing: %x %d", got, e)
	}
	for _, n := range []int{4097, 5000, 100000} {
		if got, e := frame.Seal(make([]byte, n)); got != nil || e != api.ErrLong {
			t.Errorf("Seal of %d bytes: %d", n, e)
		}
	}
}

func TestP5_2Open(t *testing.T) {
	for i, x := range []struct {
		b []byte
		e api.Errno
	}{
		{nil, api.ErrShort}, {make([]byte, 5), api.ErrShort}, {make([]byte, 6), api.ErrSum}, {make([]byte, 4103), api.ErrSum}, {make([]byte, 4104), api.ErrLong},
		{sealed(0x53), api.ErrShort}, {sealed(0x54, 0), api.ErrForm}, {sealed(0x53, 1), api.ErrForm}, {sealed(0x53, 0, 0), api.ErrForm}, {sealed(0x53, 0x80), api.ErrForm}, {sealed(0x53, 0x80, 0), api.ErrForm},
		{sealed(0x53, 0x81, 0, 'a'), api.ErrForm}, {sealed(0x53, 2, 'a'), api.ErrForm}, {sealed(0x53, 1, 'a', 'b'), api.ErrForm},
		{append(sealed(0x53, 0), 0), api.ErrSum}, {append(sealed(append([]byte{0x53, 0x80, 0x20}, make([]byte, 4096)...)...), 0), api.ErrLong},
		{sealed(append([]byte{0x53, 0x81, 0x20}, make([]byte, 4096)...)...), api.ErrForm},
		{sealed(append([]byte{0x53, 0xff, 0xff, 0xff, 0xff, 0xff, 0xff, 0xff, 0xff, 0xff, 1}, make([]byte, 9)...)...), api.ErrForm},
		{sealed(append([]byte{0x53}, bytes.Repeat([]byte{0xff}, 12)...)...), api.ErrForm},
	} {
		if b, e := frame.Open(x.b); b != nil || e != x.e {
			t.Errorf("%d: Open: %x %d, want %d", i, b, e, x.e)
		}
	}
	if b, e := frame.Open(sealed(0x53, 1, 'a')); string(b) != "a" || e != api.OK {
		t.Errorf("Open: %x %d", b, e)
	}
}

func TestP5_3Follows(t *testing.T) {
	r := rand.New(rand.NewSource(2))
	for _, body := range bodies() {
		s, _ := frame.Seal(body)
		was := bytes.Clone(s)
		got, e := frame.Open(s)
		if !bytes.Equal(got, body) || e != api.OK {
			t.Fatalf("Open of Seal of %d bytes: %d", len(body), e)
		}
		_ = append(got, 1, 2, 3, 4, 5, 6)
		for i := range got {
			got[i]++
		}
		if !bytes.Equal(s, was) {
			t.Fatal("the body shares memory with the datagram")
		}
		for range 200 {
			c := bytes.Clone(s)
			at, turn := r.Intn(len(c)*8-31), r.Uint32()>>uint(r.Intn(32))|1
			for j := range 32 {
				c[(at+j)/8] ^= byte(turn>>uint(j)&1) << uint((at+j)%8)
			}
			if b, e := frame.Open(c); b != nil || e != api.ErrSum {
				t.Fatalf("changed at the bit %d: %d", at, e)
			}
		}
		for i := range min(len(s)*8, 3000) {
			c := bytes.Clone(s)
			c[i/8] ^= 1 << uint(i%8)
			if _, e := frame.Open(c); e != api.ErrSum {
				t.Fatalf("changed at the bit %d: %d", i, e)
			}
		}
	}
	for range 20000 {
		b := make([]byte, r.Intn(6))
		r.Read(b)
		b = sealed(append([]byte{0x53, byte(r.Intn(6))}, b...)...)
		if body, e := frame.Open(b); e == api.OK {
			if s, _ := frame.Seal(body); !bytes.Equal(s, b) {
				t.Fatalf("Open takes %x, which is not what Seal tells", b)
			}
		}
	}
}
