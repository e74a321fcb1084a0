package octet_test

import (
	"bytes"
	"math/rand"
	"strings"
	"testing"

	"sumpter/api"
	"sumpter/octet"
)

// numbers are the edges of each length, and some others.
func numbers() []uint64 {
	l := []uint64{0, 1, 127, 128, 255, 256, 300, 16383, 16384, 1<<63 - 1, 1 << 63, 1<<64 - 1}
	for i := uint(7); i < 64; i += 7 {
		l = append(l, 1<<i-1, 1<<i, 1<<i+1)
	}
	r := rand.New(rand.NewSource(1))
	for i := 0; i < 500; i++ {
		l = append(l, r.Uint64()>>uint(r.Intn(64)))
	}
	return l
}

// plainNum is P1.1 as it stands there.
func plainNum(n uint64) []byte {
	var b []byte
	for {
		group := byte(n % 128)
		n /= 128
		if n == 0 {
			return append(b, group)
		}
		b = append(b, group+128)
	}
}

func TestP1_1Num(t *testing.T) {
	for n, want := range map[uint64]string{0: "\x00", 1: "\x01", 127: "\x7f", 128: "\x80\x01", 300: "\xac\x02", 1<<64 - 1: "\xff\xff\xff\xff\xff\xff\xff\xff\xff\x01"} {
		if got := octet.Num(n); string(got) != want {
			t.Errorf("Num(%d): %x, want %x", n, got, want)
		}
	}
	for _, n := range numbers() {
		if got := octet.Num(n); !bytes.Equal(got, plainNum(n)) {
			t.Errorf("Num(%d): %x", n, got)
		}
	}
	a, b := octet.Num(5), octet.Num(5)
	_ = append(a[:0], 9)
	if b[0] != 5 {
		t.Error("two answers share memory")
	}
}

func TestP1_2ReadNum(t *testing.T) {
	for _, n := range numbers() {
		for _, behind := range []string{"", "\x00", "\xff\xff", "abc"} {
			b := append(octet.Num(n), behind...)
			if m, k, e := octet.ReadNum(b); m != n || k != len(b)-len(behind) || e != api.OK {
				t.Errorf("ReadNum(%x): %d %d %d", b, m, k, e)
			}
		}
	}
	wrong := map[string]api.Errno{
		"": api.ErrShort, "\x80": api.ErrShort, "\xff\xff": api.ErrShort,
		strings.Repeat("\x80", 9):           api.ErrShort,
		strings.Repeat("\x80", 10):          api.ErrForm,
		strings.Repeat("\xff", 10) + "\x01": api.ErrForm,
		"\x80\x00":                          api.ErrForm,
		"\xff\x80\x00":                      api.ErrForm,
		"\x80\x00\x01":                      api.ErrForm,
		strings.Repeat("\xff", 9) + "\x02":  api.ErrForm,
		strings.Repeat("\x80", 9) + "\x00":  api.ErrForm,
		strings.Repeat("\x80", 9) + "\x7f":  api.ErrForm,
	}
	for s, want := range wrong {
		if n, k, e := octet.ReadNum([]byte(s)); n != 0 || k != 0 || e != want {
			t.Errorf("ReadNum(%x): %d %d %d, want %d", s, n, k, e, want)
		}
	}
	if n, k, e := octet.ReadNum([]byte(strings.Repeat("\x80", 9) + "\x01")); n != 1<<63 || k != 10 || e != api.OK {
		t.Errorf("ten bytes: %d %d %d", n, k, e)
	}
}

func TestP1_3Text(t *testing.T) {
	for _, s := range []string{"", "a", "ab", "\x00\xff", strings.Repeat("x", 127), strings.Repeat("y", 128), strings.Repeat("z", 5000)} {
		b := octet.Text(s)
		if want := string(plainNum(uint64(len(s)))) + s; string(b) != want {
			t.Errorf("Text of %d bytes: %x", len(s), b)
		}
		for _, most := range []int{len(s), len(s) + 1, 1 << 40} {
			if got, n, e := octet.ReadText(append(b, 'q'), most); got != s || n != len(b) || e != api.OK {
				t.Errorf("ReadText of %d bytes: %q %d %d", len(s), got, n, e)
			}
		}
		if got, n, e := octet.ReadText(b, len(s)); got != s || n != len(b) || e != api.OK {
			t.Errorf("ReadText of just %d bytes: %q %d %d", len(s), got, n, e)
		}
		if got, n, e := octet.ReadText(b, len(s)-1); got != "" || n != 0 || e != api.ErrLong {
			t.Errorf("ReadText one too long: %q %d %d", got, n, e)
		}
		if len(s) > 0 {
			if got, n, e := octet.ReadText(b[:len(b)-1], len(s)); got != "" || n != 0 || e != api.ErrShort {
				t.Errorf("ReadText one short: %q %d %d", got, n, e)
			}
		}
	}
	for _, x := range []struct {
		in   string
		most int
		e    api.Errno
	}{{"\x02a", 5, api.ErrShort}, {"\x06abcdef", 5, api.ErrLong}, {"\x06", 5, api.ErrLong}, {"\x00", -1, api.ErrLong}, {"", -1, api.ErrShort}, {"\x80\x00", -1, api.ErrForm}, {"\x80", 5, api.ErrShort}, {"\xff\xff\xff\xff\xff\xff\xff\xff\xff\x01", 1<<63 - 1, api.ErrLong}, {"\xff\xff\xff\xff\xff\xff\xff\xff\x7f", 1<<63 - 1, api.ErrShort}} {
		if s, n, e := octet.ReadText([]byte(x.in), x.most); s != "" || n != 0 || e != x.e {
			t.Errorf("ReadText(%x, %d): %q %d %d, want %d", x.in, x.most, s, n, e, x.e)
		}
	}
}

func TestP1_4Fixed(t *testing.T) {
	for n, want := range map[uint32][4]byte{0: {}, 1: {1, 0, 0, 0}, 0x01020304: {4, 3, 2, 1}, 1<<32 - 1: {255, 255, 255, 255}, 0x80000000: {0, 0, 0, 128}} {
		if got := octet.Fixed(n); got != want {
			t.Errorf("Fixed(%x): %x", n, got)
		}
		for _, behind := range []string{"", "x", "\x00\x00\x00\x00"} {
			if got, e := octet.ReadFixed(append(want[:], behind...)); got != n || e != api.OK {
				t.Errorf("ReadFixed(%x): %x %d", want, got, e)
			}
		}
	}
	for _, b := range [][]byte{nil, {1}, {1, 2}, {1, 2, 3}} {
		if n, e := octet.ReadFixed(b); n != 0 || e != api.ErrShort {
			t.Errorf("ReadFixed(%x): %x %d", b, n, e)
		}
	}
}

// plainSum is P1.5 as it stands there.
func plainSum(b []byte) uint32 {
	r := uint32(0xffffffff)
	for _, x := range b {
		r ^= uint32(x)
		for i := 0; i < 8; i++ {
			if r&1 == 1 {
				r = r>>1 ^ 0xEDB88320
			} else {
				r >>= 1
			}
		}
	}
	return ^r
}

func TestP1_5Sum(t *testing.T) {
	for s, want := range map[string]uint32{"": 0, "123456789": 0xcbf43926, "a": 0xe8b7be43} {
		if n := octet.Sum([]byte(s)); n != want {
			t.Errorf("Sum(%q): %x, want %x", s, n, want)
		}
	}
	r := rand.New(rand.NewSource(2))
	for i := 0; i < 300; i++ {
		b := make([]byte, r.Intn(200))
		r.Read(b)
		was := bytes.Clone(b)
		if octet.Sum(b) != plainSum(b) {
			t.Errorf("Sum(%x): %x", b, octet.Sum(b))
		}
		if !bytes.Equal(b, was) {
			t.Error("Sum changed its argument")
		}
	}
}

func TestP1_6Follows(t *testing.T) {
	r := rand.New(rand.NewSource(3))
	for i := 0; i < 20000; i++ {
		b := make([]byte, r.Intn(12))
		r.Read(b)
		if r.Intn(2) == 0 {
			for j := range b {
				b[j] |= 128
			}
		}
		if n, k, e := octet.ReadNum(b); e == api.OK && !bytes.Equal(octet.Num(n), b[:k]) {
			t.Fatalf("ReadNum(%x): %d %d, which is written as %x", b, n, k, octet.Num(n))
		}
		if s, k, e := octet.ReadText(b, 8); e == api.OK && !bytes.Equal(octet.Text(s), b[:k]) {
			t.Fatalf("ReadText(%x): %q, %d", b, s, k)
		}
	}
	for i := 0; i < 3000; i++ {
		b := make([]byte, 4+r.Intn(60))
		r.Read(b)
		c := bytes.Clone(b)
		turn := r.Uint32() | 1
		at := r.Intn(len(b)*8 - 31)
		for j := 0; j < 32; j++ {
			if turn>>uint(j)&1 == 1 {
				c[(at+j)/8] ^= 1 << uint((at+j)%8)
			}
		}
		if octet.Sum(b) == octet.Sum(c) {
			t.Fatalf("%x and %x have the same sum", b, c)
		}
	}
}
