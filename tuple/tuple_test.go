package tuple_test

import (
	"math/rand"
	"slices"
	"strings"
	"testing"

	"sumpter/api"
	"sumpter/span"
	"sumpter/tuple"
)

func joined(parts []string) string {
	s := ""
	for _, p := range parts {
		s += strings.ReplaceAll(p, "\x00", "\x00\xff") + "\x00\x01"
	}
	return s
}

// lists are some, also too long ones.
func lists(n int) [][]string {
	r := rand.New(rand.NewSource(1))
	var l [][]string
	for i := 0; i < n; i++ {
		p := make([]string, r.Intn(6))
		for j := range p {
			b := make([]byte, r.Intn(4))
			for k := range b {
				b[k] = []byte{0, 1, 2, 'a', 'b', 255}[r.Intn(6)]
			}
			p[j] = string(b)
		}
		l = append(l, p)
	}
	return l
}

func errOf(parts []string) api.Errno {
	if len(parts) == 0 || len(parts) > 4 {
		return api.ErrMany
	}
	if len(joined(parts)) > 12 {
		return api.ErrLong
	}
	return api.OK
}

func TestP3_1Join(t *testing.T) {
	fixed := []struct {
		parts []string
		want  string
		e     api.Errno
	}{
		{[]string{"a", "b"}, "a\x00\x01b\x00\x01", api.OK},
		{[]string{"\x00"}, "\x00\xff\x00\x01", api.OK},
		{[]string{""}, "\x00\x01", api.OK},
		{[]string{"", "", "", ""}, "\x00\x01\x00\x01\x00\x01\x00\x01", api.OK},
		{[]string{"", "", "", "", ""}, "", api.ErrMany},
		{nil, "", api.ErrMany},
		{[]string{"abcdefghij"}, "abcdefghij\x00\x01", api.OK},
		{[]string{"abcdefghijk"}, "", api.ErrLong},
		{[]string{"\x00\x00\x00\x00\x00"}, strings.Repeat("\x00\xff", 5) + "\x00\x01", api.OK},
		{[]string{"\x00\x00\x00\x00\x00a"}, "", api.ErrLong},
		{[]string{strings.Repeat("x", 1000), "", "", "", ""}, "", api.ErrMany},
	}
	for _, x := range fixed {
		if k, e := tuple.Join(x.parts); k != x.want || e != x.e {
			t.Errorf("Join(%q): %q %d", x.parts, k, e)
		}
	}
	for _, p := range lists(5000) {
		e := errOf(p)
		want := ""
		if e == api.OK {
			want = joined(p)
		}
		if k, got := tuple.Join(p); k != want || got != e {
			t.Fatalf("Join(%q): %q %d, want %q %d", p, k, got, want, e)
		}
	}
}

func TestP3_2Parts(t *testing.T) {
	for k, want := range map[string]api.Errno{"": api.ErrKey, strings.Repeat("a", 13): api.ErrKey, "a": api.ErrForm, "\x00": api.ErrForm, "a\x00": api.ErrForm, "a\x00\x02": api.ErrForm, "\x00\x01a": api.ErrForm, "a\x00\x00\x01": api.ErrForm, "\x00\xff": api.ErrForm, strings.Repeat("\x00\x01", 5): api.ErrForm, strings.Repeat("\x00\x01", 6): api.ErrForm, "a\x00\xfe\x00\x01": api.ErrForm} {
		if p, e := tuple.Parts(k); p != nil || e != want {
			t.Errorf("Parts(%q): %q %d, want %d", k, p, e, want)
		}
	}
	for _, want := range [][]string{{"a", "b"}, {"\x00"}, {""}, {"", "", "", ""}, {"a\x00b", "\xff"}} {
		if p, e := tuple.Parts(joined(want)); !slices.Equal(p, want) || e != api.OK {
			t.Errorf("Parts(%q): %q %d", joined(want), p, e)
		}
	}
	r := rand.New(rand.NewSource(2))
	for i := 0; i < 20000; i++ {
		b := make([]byte, 1+r.Intn(12))
		for j := range b {
			b[j] = []byte{0, 0, 0, 1, 1, 255, 'a'}[r.Intn(7)]
		}
		p, e := tuple.Parts(string(b))
		if e == api.OK && (joined(p) != string(b) || errOf(p) != api.OK) || e != api.OK && (e != api.ErrForm || p != nil) {
			t.Fatalf("Parts(%q): %q %d", b, p, e)
		}
	}
}

func TestP3_3Compare(t *testing.T) {
	for _, x := range []struct {
		a, b []string
		want int
	}{
		{nil, nil, 0}, {nil, []string{""}, -1}, {[]string{"a"}, []string{"a", "b"}, -1}, {[]string{"a", "b"}, []string{"a"}, 1},
		{[]string{"b"}, []string{"a", "b"}, 1}, {[]string{"a"}, []string{"ab"}, -1}, {[]string{"\xff"}, []string{"a"}, 1},
		{[]string{"a", "x", "c"}, []string{"a", "x", "c"}, 0}, {[]string{"a", "x", "c", "d", "e", "f"}, []string{"a", "x", "d"}, -1},
		{[]string{"", "b"}, []string{"", "a", "z"}, 1},
	} {
		if c := tuple.Compare(x.a, x.b); c != x.want {
			t.Errorf("Compare(%q, %q): %d", x.a, x.b, c)
		}
	}
	l := lists(200)
	for _, a := range l {
		for _, b := range l {
			if got := tuple.Compare(a, b); got != slices.Compare(a, b) {
				t.Fatalf("Compare(%q, %q): %d", a, b, got)
			}
		}
	}
}

func TestP3_4Under(t *testing.T) {
	if r, e := tuple.Under([]string{"a"}); r != (api.Range{Lo: "a\x00\x01", Hi: "a\x00\x02"}) || e != api.OK {
		t.Errorf("Under(a): %q %d", r, e)
	}
	for _, p := range lists(3000) {
		r, e := tuple.Under(p)
		var want api.Range
		if errOf(p) == api.OK {
			k := joined(p)
			want = api.Range{Lo: k, Hi: k[:len(k)-1] + "\x02"}
		}
		if r != want || e != errOf(p) {
			t.Fatalf("Under(%q): %q %d", p, r, e)
		}
	}
}

func TestP3_5Follows(t *testing.T) {
	l := lists(400)
	for _, a := range l {
		k, e := tuple.Join(a)
		if e != api.OK {
			continue
		}
		if p, e := tuple.Parts(k); !slices.Equal(p, a) || e != api.OK {
			t.Fatalf("Parts of Join(%q): %q %d", a, p, e)
		}
		u, _ := tuple.Under(a)
		for _, b := range l {
			q, e := tuple.Join(b)
			if e != api.OK {
				continue
			}
			if strings.Compare(k, q) != tuple.Compare(a, b) {
				t.Fatalf("%q and %q are not ordered as their keys", a, b)
			}
			begins := len(b) >= len(a) && slices.Equal(b[:len(a)], a)
			if span.Has(u, q) != begins {
				t.Fatalf("Under(%q) of %q: %v", a, b, !begins)
			}
		}
	}
}
