package script_test

import (
	"math/rand"
	"strconv"
	"strings"
	"testing"

	"sumpter/api"
	"sumpter/script"
)

func says(t *testing.T, d *script.Desk, line, want string) {
	t.Helper()
	if got, e := d.Line(line); got != want || e != api.OK {
		t.Errorf("%q: %q %d, want %q", line, got, e, want)
	}
}

func TestP24_1Example(t *testing.T) {
	d := script.New()
	for _, x := range [][2]string{
		{"map", "error 4"}, {"cluster 2 -/1 m/2", "ok"}, {"begin 1 put:a=1 put:z=2 get:a", "ok"}, {"letters", "ok 1"}, {"idle", "ok no"}, {"round 2", "ok"},
		{"seen", "ok 3\n asked 1 1 put:a=1 put:z=2 get:a\n decided 1 1\n told 1 1 committed - - =1"},
		{"map", "ok 2\n a=1\n z=2"}, {"idle", "ok yes"}, {"judge", "ok fine"}, {"nodes", "ok up up up"}, {"doubt", "ok 0"}, {"letters", "ok 0"}, {"owners", "ok 2\n - 1\n m 2"},
	} {
		says(t, d, x[0], x[1])
	}
}

func TestP24_1Lines(t *testing.T) {
	d := script.New()
	for _, l := range []string{"begin 1 get:a", "resend 1", "tick 0", "start 0", "deliver 0", "drop 0", "double 0", "spoil 0 a", "crash 0", "crash 0 01", "fuse 0 1", "split a", "move a 1", "round", "round 0", "map", "owners", "seen", "nodes", "letters", "doubt", "idle", "judge"} {
		says(t, d, l, "error 4")
	}
	for _, x := range [][2]string{
		{"cluster 0 -/1", "error 1"}, {"cluster 5 -/1", "error 1"}, {"cluster 1 -/2", "error 170"}, {"cluster 1 a/1", "error 170"}, {"cluster 2 -/1 -/2", "error 170"}, {"cluster 999999 -/999999", "error 1"},
		{"map", "error 4"},
		{"cluster 2 -/1 m/2", "ok"}, {"cluster 9 -/1", "error 1"}, {"owners", "ok 2\n - 1\n m 2"},
		{"seen", "ok 0"}, {"map", "ok 0"}, {"round", "ok"}, {"letters", "ok 0"},
		{"begin 0 get:a", "error 1"}, {"begin 5 get:a", "error 1"}, {"begin 1 get:a get:a get:a get:a get:a", "error 3"}, {"begin 1 scan:-:-:0", "error 1"}, {"begin 1 clear:b:a", "error 21"}, {"begin 1 scan:a:a:1", "error 21"},
		{"begin 1 put:a= put:b=x put:c=0123456789abcdef", "ok"}, {"begin 1 get:a", "error 4"}, {"resend 1", "ok"}, {"resend 2", "error 4"}, {"resend 9", "error 1"}, {"letters", "ok 2"},
		{"drop 1", "ok"}, {"drop 1", "error 5"}, {"double 0", "ok"}, {"double 7", "error 5"}, {"spoil 1 junk", "ok"}, {"spoil 2 junk", "error 5"}, {"deliver 1", "ok"}, {"deliver 1", "error 5"}, {"deliver 0", "ok"}, {"letters", "ok 1"},
		{"deliver 0", "ok"}, {"doubt", "ok 1"}, {"round", "ok"}, {"round", "ok"}, {"doubt", "ok 0"},
		{"begin 2 scan:-:-:4 get:a get:q clear:a:b del:q scan:y:-:1 clear:-:-", "error 3"}, {"begin 2 scan:-:-:4 get:a get:q clear:a:b", "ok"}, {"begin 3 del:q scan:y:-:1 clear:c:-", "ok"}, {"round 5", "ok"},
		{"seen", "ok 8\n asked 1 1 put:a= put:b=x put:c=0123456789abcdef\n decided 1 1\n told 1 1 committed - - -\n asked 2 1 scan:-:-:4 get:a get:q clear:a:b\n asked 3 1 del:q scan:y:-:1 clear:c:-\n decided 2 1\n told 2 1 committed [a=,b=x,c=0123456789abcdef] = - -\n told 3 1 aborted"},
		{"map", "ok 2\n b=x\n c=0123456789abcdef"},
		{"tick 0", "ok"}, {"tick 2", "ok"}, {"tick 3", "error 1"}, {"crash 3", "error 1"}, {"start 3", "error 1"}, {"fuse 3 0", "error 1"}, {"start 1", "error 4"},
		{"crash 1", "ok"}, {"nodes", "ok up down up"}, {"map", "error 60"}, {"tick 1", "error 60"}, {"fuse 1 5", "error 60"}, {"crash 1 0110", "ok"}, {"start 1", "ok"}, {"nodes", "ok up up up"}, {"map", "ok 2\n b=x\n c=0123456789abcdef"},
		{"split m", "error 6"}, {"split g", "ok"}, {"owners", "ok 3\n - 1\n g 1\n m 2"}, {"move a 1", "error 1"}, {"move a 3", "error 1"}, {"move a 2", "ok"}, {"split b", "error 4"}, {"round 9", "ok"}, {"owners", "ok 3\n - 2\n g 1\n m 2"},
		{"crash 0", "ok"}, {"split b", "error 60"}, {"move a 1", "error 60"}, {"nodes", "ok down up up"}, {"idle", "ok no"}, {"start 0", "ok"}, {"fuse 0 0", "ok"}, {"split b", "ok"}, {"nodes", "ok down up up"}, {"judge", "ok fine"}, {"start 0", "ok"}, {"round 100", "ok"}, {"round 0", "ok"},
		{"cluster 1 -/1", "ok"}, {"nodes", "ok up up"}, {"seen", "ok 0"},
	} {
		says(t, d, x[0], x[1])
	}
}

func TestP24_1NoLines(t *testing.T) {
	for _, d := range []*script.Desk{script.New(), script.New()} {
		d.Line("cluster 1 -/1")
		k13, v17 := strings.Repeat("k", 13), strings.Repeat("v", 17)
		for _, l := range []string{
			"", " ", "x", "maps", "Map", "map ", " map", "map map", "map 1", "cluster", "cluster 1", "cluster -/1", "cluster 1 /1", "cluster 1 -", "cluster 1 -/", "cluster 1 -1", "cluster 1  -/1", "cluster 1 -/1 ", "cluster 01 -/1", "cluster 1 -/01", "cluster 1 A/1", "cluster 1 " + k13 + "/1", "cluster 1 -/1/1", "cluster 1 --/1",
			"begin 1", "begin", "begin get:a", "begin 1 get", "begin 1 get:", "begin 1 get:-", "begin 1 get:A", "begin 1 get:" + k13, "begin 1 get:a:b", "begin 1 put:a", "begin 1 put:=x", "begin 1 put:a=" + v17, "begin 1 put:a=b=c", "begin 1 put:a=-", "begin 1 put:a:b", "begin 1 del:", "begin 1 scan:-:-", "begin 1 scan:-:-:", "begin 1 scan:-:-:01", "begin 1 scan:-:-:1:1", "begin 1 scan::-:1", "begin 1 clear:-", "begin 1 clear:-:", "begin 1 clear:a:b:c", "begin 1 has:a", "begin 1 get:a  get:b", "begin 1 get:a ", "begin 1 GET:a", "begin 1 get:\xff",
			"resend", "resend 1 1", "resend a", "resend -1", "resend +1", "resend 1234567", "resend 1\n", "tick 01", "tick 00", "tick", "tick 1.0", "tick 0x1", "tick ١", "start", "start 1 1", "deliver", "deliver 1 1", "drop", "drop 1 1", "double", "double 1 1",
			"spoil 1", "spoil 1 -", "spoil 1 a b", "spoil 1 " + k13, "crash", "crash 1 2", "crash 1 01 1", "crash 1 ", "crash 1 " + strings.Repeat("0", 65), "crash 1 0a", "fuse 1", "fuse 1 -1", "fuse 1 1 1",
			"split", "split -", "split a b", "move a", "move a 1 1", "move 1", "move - 1", "round 101", "round 1000000", "round 01", "round 1 1", "round -1", "# round", "seen 1", "judge 1", "nodes 1", "owners 1", "letters 1", "doubt 1", "idle 1",
		} {
			if got, e := d.Line(l); got != "" || e != api.ErrLine {
				t.Errorf("%q: %q %d", l, got, e)
			}
		}
		for _, n := range []int{256, 257, 100000} {
			want := api.ErrLong
			if n == 256 {
				want = api.ErrLine
			}
			if got, e := d.Line("map" + strings.Repeat(" ", n-3)); got != "" || e != want {
				t.Errorf("%d bytes: %d", n, e)
			}
		}
		says(t, d, "split abcdefghijkl", "ok")
		says(t, d, "begin 1 get:"+strings.Repeat("k", 12), "ok")
		long := "begin 1" + strings.Repeat(" get:aaaaaaaaaaaa", 14) + " get:aaaaaa"
		says(t, d, long, "error 3")
		if got, e, at := script.Run("cluster 1 -/1\n" + long); len(long) != 256 || got != "ok\nerror 3\n" || e != api.OK || at != 0 {
			t.Errorf("%d bytes: %q %d %d", len(long), got, e, at)
		}
		says(t, d, "crash 1 "+strings.Repeat("1", 64), "ok")
		says(t, d, "tick 0", "ok")
		says(t, d, "tick 999999", "error 1")
	}
}

func TestP24_2Run(t *testing.T) {
	for i, x := range []struct {
		text, want string
		e          api.Errno
		at         int
	}{
		{"", "", api.OK, 0}, {"\n", "", api.OK, 0}, {"\n\n", "", api.OK, 0}, {"# map", "", api.OK, 0}, {"#" + strings.Repeat("x", 1000), "", api.OK, 0},
		{"map", "error 4\n", api.OK, 0}, {"map\n", "error 4\n", api.OK, 0}, {"map\n\nmap", "error 4\nerror 4\n", api.OK, 0},
		{"cluster 1 -/1\n# a remark\n\nbegin 1 put:a=1\nround 2\nmap\nseen\n", "ok\nok\nok\nok 1\n a=1\nok 3\n asked 1 1 put:a=1\n decided 1 1\n told 1 1 committed -\n", api.OK, 0},
		{"x", "", api.ErrScript, 1}, {"map\n\n#\nmap \nx", "", api.ErrScript, 4}, {"map\nmap" + strings.Repeat(" ", 254), "", api.ErrScript, 2}, {" #", "", api.ErrScript, 1}, {"map\r\n", "", api.ErrScript, 1}, {"map\n tick 0", "", api.ErrScript, 2},
		{strings.Repeat("map\n", 400), strings.Repeat("error 4\n", 400), api.OK, 0}, {strings.Repeat("\n", 400), "", api.OK, 0}, {strings.Repeat("\n", 401), "", api.ErrLong, 0}, {strings.Repeat("map\n", 400) + "map", "", api.ErrLong, 0}, {strings.Repeat("x\n", 401), "", api.ErrLong, 0},
		{"#" + strings.Repeat("x", 65535), "", api.OK, 0}, {"#" + strings.Repeat("x", 65536), "", api.ErrLong, 0}, {strings.Repeat("x", 65537), "", api.ErrLong, 0}, {strings.Repeat("x", 65536), "", api.ErrScript, 1},
	} {
		if got, e, at := script.Run(x.text); got != x.want || e != x.e || at != x.at {
			t.Errorf("%d: Run: %q %d %d, want %q %d %d", i, got, e, at, x.want, x.e, x.at)
		}
	}
}

// some is a text of lines that are some, at random.
func some(r *rand.Rand) string {
	lines := []string{"cluster 3 -/1 g/2 p/3"}
	num := func(n int) string { return strconv.Itoa(r.Intn(n)) }
	key := func() string { return string(rune('a' + r.Intn(26))) }
	for range 120 {
		lines = append(lines, []string{
			"begin " + num(6) + " put:" + key() + "=" + num(99) + " get:" + key(), "begin " + num(6) + " scan:-:-:4", "begin " + num(6) + " clear:" + key() + ":- put:" + key() + "=", "round", "round " + num(4), "deliver 0", "deliver " + num(5), "double " + num(4), "drop " + num(4), "tick " + num(5), "crash " + num(5) + " 01101", "crash " + num(4), "start " + num(4), "start " + num(4), "fuse " + num(4) + " " + num(40), "split " + key(), "move " + key() + " " + num(5), "spoil 0 junk", "resend " + num(5),
			"map", "owners", "seen", "nodes", "letters", "doubt", "idle", "judge", "# remark", "",
		}[r.Intn(29)])
	}
	for n := range 4 {
		lines = append(lines, "crash "+strconv.Itoa(n), "start "+strconv.Itoa(n))
	}
	return strings.Join(append(lines, "round 100", "idle", "doubt", "judge", "nodes"), "\n")
}

func TestP24_3Follows(t *testing.T) {
	r := rand.New(rand.NewSource(1))
	asks := map[string]bool{"map": true, "owners": true, "seen": true, "nodes": true, "letters": true, "doubt": true, "idle": true, "judge": true}
	for range 60 {
		text := some(r)
		all, e, at := script.Run(text)
		if e != api.OK || at != 0 {
			t.Fatalf("Run: %d %d", e, at)
		}
		if !strings.HasSuffix(all, "ok yes\nok 0\nok fine\nok up up up up\n") {
			t.Fatalf("in the end: %q", all[max(0, len(all)-200):])
		}
		lines := strings.Split(text, "\n")
		n := r.Intn(len(lines))
		first, _, _ := script.Run(strings.Join(lines[:n], "\n"))
		if !strings.HasPrefix(all, first) {
			t.Fatal("what is told of a beginning is not told first")
		}
		// Asking changes nothing, and a desk answers as Run does.
		d := script.New()
		var told, without []string
		var rest []string
		for _, l := range lines {
			if l == "" || l[0] == '#' {
				continue
			}
			s, e := d.Line(l)
			if e != api.OK {
				t.Fatalf("%q: %d", l, e)
			}
			told = append(told, s+"\n")
			if !asks[l] {
				rest = append(rest, l)
				without = append(without, s+"\n")
			}
		}
		if strings.Join(told, "") != all {
			t.Fatal("a desk answers otherwise")
		}
		if got, _, _ := script.Run(strings.Join(rest, "\n")); got != strings.Join(without, "") {
			t.Fatal("asking changes something")
		}
	}
}
