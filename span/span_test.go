package span_test

import (
	"math/rand"
	"strings"
	"testing"

	"sumpter/api"
	"sumpter/span"
)

var (
	top  = strings.Repeat("\xff", 12)
	long = strings.Repeat("k", 13)
)

// keys are some, and texts that are none.
func keys() []string {
	return []string{"a", "a\x00", "a\x00\x00", "aa", "b", "g", "m", "\x00", "\x00\x00", "\xff", top, top[:11] + "\xfe", "a" + top[:11], "kkkkkkkkkkkk", "kkkkkkkkkkkl", "z"}
}

// ends are keys, the empty one, and texts that are no keys.
func ends() []string {
	return append(keys(), "", long, long+long)
}

func ranges() []api.Range {
	var l []api.Range
	for _, lo := range ends() {
		for _, hi := range ends() {
			l = append(l, api.Range{Lo: lo, Hi: hi})
		}
	}
	return l
}

func isKey(k string) bool { return len(k) >= 1 && len(k) <= 12 }

func isRange(r api.Range) bool {
	return (r.Lo == "" || isKey(r.Lo)) && (r.Hi == "" || isKey(r.Hi) && r.Hi > r.Lo)
}

func has(r api.Range, k string) bool {
	return isRange(r) && isKey(k) && k >= r.Lo && (r.Hi == "" || k < r.Hi)
}

func TestP2_1Check(t *testing.T) {
	for k, want := range map[string]api.Errno{"": api.ErrKey, "a": api.OK, "\x00": api.OK, strings.Repeat("x", 12): api.OK, long: api.ErrKey, top: api.OK, top + "\xff": api.ErrKey} {
		if e := span.CheckKey(k); e != want {
			t.Errorf("CheckKey(%q): %d, want %d", k, e, want)
		}
	}
	for _, r := range ranges() {
		want := api.OK
		if !isRange(r) {
			want = api.ErrRange
		}
		if e := span.Check(r); e != want {
			t.Errorf("Check(%q): %d, want %d", r, e, want)
		}
	}
	for _, r := range []api.Range{{Lo: "a", Hi: "a"}, {Lo: "b", Hi: "a"}, {Lo: long}, {Hi: long}, {Lo: "a", Hi: "b" + long}} {
		if e := span.Check(r); e != api.ErrRange {
			t.Errorf("Check(%q): %d", r, e)
		}
	}
	if e := span.Check(api.Range{Hi: "\x00"}); e != api.OK {
		t.Errorf("a range without keys: %d", e)
	}
}

func TestP2_2Has(t *testing.T) {
	for _, r := range ranges() {
		for _, k := range ends() {
			if got := span.Has(r, k); got != has(r, k) {
				t.Errorf("Has(%q, %q): %v", r, k, got)
			}
		}
	}
}

func TestP2_3Meet(t *testing.T) {
	for _, a := range ranges() {
		for _, b := range ranges() {
			var want api.Range
			ok := isRange(a) && isRange(b)
			if ok {
				want.Lo = max(a.Lo, b.Lo)
				want.Hi = min(a.Hi, b.Hi)
				if want.Hi == "" {
					want.Hi = max(a.Hi, b.Hi)
				}
				if want.Hi != "" && want.Lo >= want.Hi {
					want, ok = api.Range{}, false
				}
			}
			if m, is := span.Meet(a, b); m != want || is != ok {
				t.Fatalf("Meet(%q, %q): %q %v, want %q %v", a, b, m, is, want, ok)
			}
			covers := isRange(a) && isRange(b) && a.Lo <= b.Lo && (a.Hi == "" || b.Hi != "" && a.Hi >= b.Hi)
			if span.Covers(a, b) != covers {
				t.Fatalf("Covers(%q, %q): %v", a, b, !covers)
			}
		}
	}
	if m, ok := span.Meet(api.Range{Lo: "a", Hi: "m"}, api.Range{Lo: "g"}); m != (api.Range{Lo: "g", Hi: "m"}) || !ok {
		t.Errorf("the example: %q %v", m, ok)
	}
	if m, ok := span.Meet(api.Range{Lo: "a", Hi: "g"}, api.Range{Lo: "g"}); m != (api.Range{}) || ok {
		t.Errorf("side by side: %q %v", m, ok)
	}
	nothing := api.Range{Hi: "\x00"}
	if m, ok := span.Meet(nothing, api.Range{}); m != nothing || !ok {
		t.Errorf("a range without keys: %q %v", m, ok)
	}
}

func TestP2_4Point(t *testing.T) {
	for k, hi := range map[string]string{"a": "a\x00", "\xff": "\xff\x00", top: "", top[:11]: top[:11] + "\x00", top[:11] + "\xfe": top, "a" + top[:11]: "b", "abcdefghijk\xff": "abcdefghijl", "abcdefghijkl": "abcdefghijkm", "a\x00" + top[:10]: "a\x01", "\xff\xfe" + top[:10]: "\xff\xff", "abcdefghi\xef\xbf\xbd": "abcdefghi\xef\xbf\xbe"} {
		if r, e := span.Point(k); r != (api.Range{Lo: k, Hi: hi}) || e != api.OK {
			t.Errorf("Point(%q): %q %d, want Hi %q", k, r, e, hi)
		}
	}
	for _, k := range []string{"", long} {
		if r, e := span.Point(k); r != (api.Range{}) || e != api.ErrKey {
			t.Errorf("Point(%q): %q %d", k, r, e)
		}
	}
}

func TestP2_5Cut(t *testing.T) {
	for _, r := range ranges() {
		for _, at := range ends() {
			want := api.OK
			switch {
			case !isRange(r):
				want = api.ErrRange
			case !isKey(at):
				want = api.ErrKey
			case at <= r.Lo || r.Hi != "" && at >= r.Hi:
				want = api.ErrRange
			}
			var wa, wb api.Range
			if want == api.OK {
				wa, wb = api.Range{Lo: r.Lo, Hi: at}, api.Range{Lo: at, Hi: r.Hi}
			}
			if a, b, e := span.Cut(r, at); a != wa || b != wb || e != want {
				t.Fatalf("Cut(%q, %q): %q %q %d, want %d", r, at, a, b, e, want)
			}
		}
	}
}

func TestP2_6Follows(t *testing.T) {
	rnd := rand.New(rand.NewSource(1))
	text := func() string {
		b := make([]byte, 1+rnd.Intn(12))
		for i := range b {
			b[i] = []byte{0, 1, 254, 255, 'a'}[rnd.Intn(5)]
		}
		return string(b)
	}
	for i := 0; i < 5000; i++ {
		k, q := text(), text()
		p, _ := span.Point(k)
		if !span.Has(p, k) || q != k && span.Has(p, q) {
			t.Fatalf("Point(%q): %q", k, p)
		}
		a, b := api.Range{Lo: text(), Hi: text()}, api.Range{Lo: text(), Hi: text()}
		m, ok := span.Meet(a, b)
		n, is := span.Meet(b, a)
		if m != n || ok != is {
			t.Fatalf("Meet(%q, %q) hangs on their order", a, b)
		}
		if isRange(a) && isRange(b) && (span.Has(a, q) && span.Has(b, q)) != (ok && span.Has(m, q)) {
			t.Fatalf("Meet(%q, %q): %q, of %q", a, b, m, q)
		}
		if span.Covers(a, b) && m != b {
			t.Fatalf("Meet(%q, %q) of what is covered: %q", a, b, m)
		}
		if c, d, e := span.Cut(a, k); e == api.OK && span.Has(a, q) != (span.Has(c, q) != span.Has(d, q)) {
			t.Fatalf("Cut(%q, %q): %q, %q of %q", a, k, c, d, q)
		}
	}
}
