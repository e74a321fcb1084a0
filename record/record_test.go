package record_test

import (
	"bytes"
	"fmt"
	"math/rand"
	"reflect"
	"strings"
	"testing"

	"sumpter/api"
	"sumpter/octet"
	"sumpter/record"
)

const top = 1<<64 - 1

var (
	one   = []api.Owner{{Shard: 1}}
	two   = []api.Owner{{Shard: 1}, {Lo: "m", Shard: 2}}
	a1    = []api.Op{{Kind: api.Put, Key: "a", Value: "1"}, {Kind: api.Scan, Lo: "b", Hi: "c", Most: 4}}
	in    = api.Range{Lo: "a", Hi: "m"}
	shard = api.Shard{Id: 2, Boot: 3, Ver: 4, Epoch: 5, Move: 6, Owners: two, Held: []api.Hold{{Txn: 7, Ops: a1}, {Txn: top, Ops: a1[:1]}}, Finished: []uint64{1, 8, 300}, Low: 1, Frozen: 6, Cold: in, In: api.Inbox{Move: 9, Attempt: 10, Next: 11, Range: api.Range{Lo: "x"}}}
	coord = api.Coord{Shards: 2, Boot: 1, Ver: 1 << 32, Epoch: 3, Owners: two, Decided: []api.Decision{{Txn: 5, Client: 1, Boot: 1, Req: 9, Shards: []int{1, 2}}, {Txn: 2<<32 - 1, Client: 4, Shards: []int{2}}},
		Last: []api.Last{{Client: 1, Boot: 1, Req: 9, Results: []api.Result{{Found: true, Value: "v"}, {Pairs: []api.Pair{{Key: "b", Value: "2"}, {Key: "a"}}}}}, {Client: 3}}}
)

func shardOf(f func(s *api.Shard)) api.Shard {
	s := shard
	f(&s)
	return s
}

func coordOf(f func(c *api.Coord)) api.Coord {
	c := coord
	f(&c)
	return c
}

func holds(n int) []api.Hold {
	var l []api.Hold
	for i := range n {
		l = append(l, api.Hold{Txn: uint64(i + 1000), Ops: a1})
	}
	return l
}

func nums(n int) []uint64 {
	var l []uint64
	for i := range n {
		l = append(l, uint64(i))
	}
	return l
}

func ops(n int, o api.Op) []api.Op {
	var l []api.Op
	for range n {
		l = append(l, o)
	}
	return l
}

func TestP19_1CheckShard(t *testing.T) {
	for i, x := range []struct {
		ok bool
		f  func(s *api.Shard)
	}{
		{true, func(s *api.Shard) {}}, {false, func(s *api.Shard) { s.Id = 0 }}, {false, func(s *api.Shard) { s.Id = 5 }}, {false, func(s *api.Shard) { s.Id = -1 }}, {true, func(s *api.Shard) { s.Id = 4 }},
		{false, func(s *api.Shard) { s.Owners = nil }}, {false, func(s *api.Shard) { s.Owners = []api.Owner{{Lo: "a", Shard: 1}} }}, {true, func(s *api.Shard) { s.Owners = []api.Owner{{Shard: 4}} }},
		{true, func(s *api.Shard) { s.Held = nil }}, {true, func(s *api.Shard) { s.Held = holds(6) }}, {false, func(s *api.Shard) { s.Held = holds(7) }},
		{false, func(s *api.Shard) { s.Held = []api.Hold{{Txn: 7, Ops: a1}, {Txn: 7, Ops: a1}} }}, {false, func(s *api.Shard) { s.Held = []api.Hold{{Txn: 7, Ops: a1}, {Txn: 5, Ops: a1}} }},
		{false, func(s *api.Shard) { s.Held = []api.Hold{{Txn: 7}} }}, {true, func(s *api.Shard) { s.Held = []api.Hold{{Txn: 7, Ops: ops(24, a1[0])}} }}, {false, func(s *api.Shard) { s.Held = []api.Hold{{Txn: 7, Ops: ops(25, a1[0])}} }},
		{false, func(s *api.Shard) { s.Held = []api.Hold{{Txn: 7, Ops: ops(1, api.Op{})}} }}, {true, func(s *api.Shard) { s.Held = []api.Hold{{Txn: 0, Ops: a1}} }},
		{false, func(s *api.Shard) { s.Finished = []uint64{1, 7} }}, {false, func(s *api.Shard) { s.Finished = []uint64{1, 1} }}, {false, func(s *api.Shard) { s.Finished = []uint64{2, 1} }},
		{true, func(s *api.Shard) { s.Held, s.Finished = holds(2), nums(62) }}, {false, func(s *api.Shard) { s.Held, s.Finished = holds(2), nums(63) }}, {true, func(s *api.Shard) { s.Held, s.Finished = nil, nums(64) }}, {false, func(s *api.Shard) { s.Held, s.Finished = nil, nums(65) }},
		{false, func(s *api.Shard) { s.Frozen = 0 }}, {true, func(s *api.Shard) { s.Frozen, s.Cold = 0, api.Range{} }}, {false, func(s *api.Shard) { s.Cold = api.Range{Lo: "b", Hi: "a"} }}, {true, func(s *api.Shard) { s.Cold = api.Range{} }},
		{false, func(s *api.Shard) { s.In.Move = 0 }}, {true, func(s *api.Shard) { s.In = api.Inbox{} }}, {false, func(s *api.Shard) { s.In = api.Inbox{Attempt: 1} }}, {false, func(s *api.Shard) { s.In = api.Inbox{Next: 1} }}, {false, func(s *api.Shard) { s.In = api.Inbox{Range: in} }}, {true, func(s *api.Shard) { s.In = api.Inbox{Move: 1} }}, {false, func(s *api.Shard) { s.In.Range.Hi = "a" }},
	} {
		s := shardOf(x.f)
		e := record.CheckShard(s)
		b, f := record.EncodeShard(s)
		if x.ok && (e != api.OK || f != api.OK) || !x.ok && (e != api.ErrArg || f != api.ErrArg || b != nil) {
			t.Errorf("%d: CheckShard: %d %d", i, e, f)
		}
	}
}

func TestP19_1CheckCoord(t *testing.T) {
	decide := func(d ...api.Decision) func(c *api.Coord) { return func(c *api.Coord) { c.Decided = d } }
	last := func(l ...api.Last) func(c *api.Coord) { return func(c *api.Coord) { c.Last = l } }
	tell := func(r ...api.Result) func(c *api.Coord) { return last(api.Last{Client: 1, Results: r}) }
	var eight []api.Decision
	for i := range 9 {
		eight = append(eight, api.Decision{Txn: uint64(i), Client: 1, Shards: []int{1}})
	}
	for i, x := range []struct {
		ok bool
		f  func(c *api.Coord)
	}{
		{true, func(c *api.Coord) {}}, {false, func(c *api.Coord) { c.Shards = 0 }}, {false, func(c *api.Coord) { c.Shards = 5 }}, {false, func(c *api.Coord) { c.Shards = 1 }}, {true, func(c *api.Coord) { c.Shards = 4 }}, {false, func(c *api.Coord) { c.Shards = -1 }},
		{false, func(c *api.Coord) { c.Boot = 1 << 31 }}, {true, func(c *api.Coord) { c.Boot = 1<<31 - 1 }}, {false, func(c *api.Coord) { c.Boot = 0 }}, {false, func(c *api.Coord) { c.Boot = top }},
		{false, func(c *api.Coord) { c.Owners = nil }}, {false, func(c *api.Coord) { c.Owners = []api.Owner{{Shard: 3}} }}, {false, func(c *api.Coord) { c.Shards, c.Owners = 4, []api.Owner{{Shard: 5}} }},
		{true, decide(eight[:8]...)}, {false, decide(eight...)}, {false, decide(eight[1], eight[1])}, {false, decide(eight[2], eight[1])},
		{true, decide(api.Decision{Txn: 2<<32 - 1, Client: 1, Shards: []int{1}})}, {false, decide(api.Decision{Txn: 2 << 32, Client: 1, Shards: []int{1}})},
		{false, decide(api.Decision{Client: 0, Shards: []int{1}})}, {false, decide(api.Decision{Client: 5, Shards: []int{1}})}, {true, decide(api.Decision{Client: 4, Shards: []int{2}})},
		{false, decide(api.Decision{Client: 1})}, {false, decide(api.Decision{Client: 1, Shards: []int{0}})}, {false, decide(api.Decision{Client: 1, Shards: []int{3}})}, {false, decide(api.Decision{Client: 1, Shards: []int{1, 1}})}, {false, decide(api.Decision{Client: 1, Shards: []int{2, 1}})},
		{true, last()}, {true, last(api.Last{Client: 1}, api.Last{Client: 2}, api.Last{Client: 3}, api.Last{Client: 4})}, {false, last(api.Last{Client: 0})}, {false, last(api.Last{Client: 5})}, {false, last(api.Last{Client: 1}, api.Last{Client: 1})}, {false, last(api.Last{Client: 2}, api.Last{Client: 1})},
		{true, tell(make([]api.Result, 4)...)}, {false, tell(make([]api.Result, 5)...)}, {true, tell(api.Result{Value: strings.Repeat("v", 16)})}, {false, tell(api.Result{Value: strings.Repeat("v", 17)})},
		{true, tell(api.Result{Pairs: []api.Pair{{Key: "b"}, {Key: "b"}, {Key: "a"}, {Key: "c"}}})}, {false, tell(api.Result{Pairs: []api.Pair{{Key: "b"}, {Key: "b"}, {Key: "a"}, {Key: "c"}, {Key: "d"}}})},
		{true, tell(api.Result{Pairs: []api.Pair{{Key: strings.Repeat("k", 12), Value: strings.Repeat("v", 16)}}})}, {false, tell(api.Result{Pairs: []api.Pair{{Key: ""}}})}, {false, tell(api.Result{Pairs: []api.Pair{{Key: strings.Repeat("k", 13)}}})}, {false, tell(api.Result{Pairs: []api.Pair{{Key: "a", Value: strings.Repeat("v", 17)}}})},
	} {
		c := coordOf(x.f)
		e := record.CheckCoord(c)
		b, f := record.EncodeCoord(c)
		if x.ok && (e != api.OK || f != api.OK) || !x.ok && (e != api.ErrArg || f != api.ErrArg || b != nil) {
			t.Errorf("%d: CheckCoord: %d %d", i, e, f)
		}
	}
}

// plain writes what it is given: numbers, texts, and lists of these.
func plain(mark byte, l ...any) []byte {
	b := []byte{mark}
	for _, x := range l {
		switch x := x.(type) {
		case int:
			b = append(b, octet.Num(uint64(x))...)
		case uint64:
			b = append(b, octet.Num(x)...)
		case string:
			b = append(b, octet.Text(x)...)
		}
	}
	return b
}

func TestP19_2Encode(t *testing.T) {
	for want, s := range map[string]api.Shard{
		"5301000000000100010000000000000000000000": {Id: 1, Owners: one},
		fmt.Sprintf("%x", plain(0x53, 2, 3, 4, 5, 6, 2, "", 1, "m", 2, 2, 7, 2, api.Put, "a", "1", "", "", 0, api.Scan, "", "", "b", "c", 4, uint64(top), 1, api.Put, "a", "1", "", "", 0, 3, 1, 8, 300, 1, 6, "a", "m", 9, 10, 11, "x", "")): shard,
	} {
		if b, e := record.EncodeShard(s); fmt.Sprintf("%x", b) != want || e != api.OK {
			t.Errorf("EncodeShard: %x %d, want %s", b, e, want)
		}
	}
	for want, c := range map[string]api.Coord{
		"43020100000100010000": {Shards: 2, Boot: 1, Owners: one},
		fmt.Sprintf("%x", plain(0x43, 2, 1, uint64(1<<32), 3, 2, "", 1, "m", 2, 2, 5, 1, 1, 9, 2, 1, 2, uint64(2<<32-1), 4, 0, 0, 1, 2, 2, 1, 1, 9, 2, 1, "v", 0, 0, "", 2, "b", "2", "a", "", 3, 0, 0, 0)): coord,
	} {
		if b, e := record.EncodeCoord(c); fmt.Sprintf("%x", b) != want || e != api.OK {
			t.Errorf("EncodeCoord: %x %d, want %s", b, e, want)
		}
	}
}

func sameShard(a, b api.Shard) bool {
	norm := func(s *api.Shard) {
		s.Owners = append([]api.Owner{}, s.Owners...)
		s.Held = append([]api.Hold{}, s.Held...)
		s.Finished = append([]uint64{}, s.Finished...)
	}
	norm(&a)
	norm(&b)
	return reflect.DeepEqual(a, b)
}

func sameCoord(a, b api.Coord) bool {
	norm := func(c *api.Coord) {
		c.Owners = append([]api.Owner{}, c.Owners...)
		c.Decided = append([]api.Decision{}, c.Decided...)
		c.Last = append([]api.Last{}, c.Last...)
		for i := range c.Last {
			c.Last[i].Results = append([]api.Result{}, c.Last[i].Results...)
			for j := range c.Last[i].Results {
				c.Last[i].Results[j].Pairs = append([]api.Pair{}, c.Last[i].Results[j].Pairs...)
			}
		}
	}
	norm(&a)
	norm(&b)
	return reflect.DeepEqual(a, b)
}

func TestP19_3DecodeShard(t *testing.T) {
	s0 := plain(0x53, 1, 0, 0, 0, 0)
	for s, want := range map[string]api.Errno{
		"": api.ErrShort, "\x43": api.ErrForm, "\x00": api.ErrForm, "\x53": api.ErrShort,
		string(s0):                                      api.ErrShort,
		string(plain(0x53, 256)):                        api.ErrForm,
		string(plain(0x53, 255)):                        api.ErrShort,
		string(s0) + "\x00":                             api.ErrShort,
		string(s0) + "\x80\x02":                         api.ErrForm,
		string(s0) + "\x01\x80\x02":                     api.ErrForm,
		string(s0) + "\x01\x00\x80\x02":                 api.ErrForm,
		string(s0) + "\x01\x00\xff\x01":                 api.ErrShort,
		string(s0) + "\x00" + noughts(11):               api.ErrArg,
		string(s0) + "\x00" + noughts(12):               api.ErrForm,
		string(s0) + "\x01\x00\x01" + noughts(11):       api.OK,
		string(s0) + "\x01\x00\x01\x01\x05\x01\x80\x02": api.ErrForm,
		string(s0) + "\x01\x00\x01\x01\x05\x01\x02\x01a\x00\x00\x00\x80\x02": api.ErrForm,
		string(s0) + "\x01\x00\x01\x01\x05\x00" + noughts(10):                api.ErrArg,
		string(s0) + "\x01\x00\x01\x00\x80\x00":                              api.ErrForm,
		string(plain(0x53, 0, 0, 0, 0, 0)) + "\x01\x00\x01" + noughts(11):    api.ErrArg,
		string(plain(0x53, 255, 0, 0, 0, 0)) + "\x01\x00\x01" + noughts(11):  api.ErrArg,
	} {
		x, e := record.DecodeShard([]byte(s))
		if e != want || e != api.OK && !sameShard(x, api.Shard{}) {
			t.Errorf("DecodeShard(%x): %d, want %d", s, e, want)
		}
	}
	for _, n := range []int{8192, 8193} {
		want := map[int]api.Errno{8192: api.ErrForm, 8193: api.ErrLong}[n]
		if _, e := record.DecodeShard(make([]byte, n)); e != want {
			t.Errorf("DecodeShard of %d bytes: %d", n, e)
		}
		if _, e := record.DecodeCoord(make([]byte, n)); e != want {
			t.Errorf("DecodeCoord of %d bytes: %d", n, e)
		}
	}
}

func noughts(n int) string { return strings.Repeat("\x00", n) }

func TestP19_3DecodeCoord(t *testing.T) {
	c0 := string(plain(0x43, 2, 1, 0, 0, 1, "", 1))
	for s, want := range map[string]api.Errno{
		"": api.ErrShort, "\x53": api.ErrForm, "\x43": api.ErrShort,
		c0: api.ErrShort, c0 + "\x00": api.ErrShort, c0 + "\x00\x00": api.OK, c0 + "\x00\x00\x00": api.ErrForm,
		c0 + "\x80\x02":                                            api.ErrForm,
		c0 + "\x01\x05\x01\x00\x00\x00\x00":                        api.ErrArg,
		c0 + "\x01\x05\x01\x00\x00\x01\x80\x02":                    api.ErrForm,
		c0 + "\x01\x05\x80\x02":                                    api.ErrForm,
		c0 + "\x00\x01\x01\x00\x00\x01\x02":                        api.ErrForm,
		c0 + "\x00\x01\x01\x00\x00\x01\x80\x01":                    api.ErrForm,
		c0 + "\x00\x01\x01\x00\x00\x01\x01\x00\x00":                api.OK,
		c0 + "\x00\x01\x01\x00\x00\x01\x01\x80\x02":                api.ErrForm,
		c0 + "\x00\x01\x05\x00\x00\x00":                            api.ErrArg,
		string(plain(0x43, 256)):                                   api.ErrForm,
		string(plain(0x43, 2, 1<<31, 0, 0, 1, "", 1)) + "\x00\x00": api.ErrArg,
	} {
		x, e := record.DecodeCoord([]byte(s))
		if e != want || e != api.OK && !sameCoord(x, api.Coord{}) {
			t.Errorf("DecodeCoord(%x): %d, want %d", s, e, want)
		}
	}
}

func TestP19_4Follows(t *testing.T) {
	r := rand.New(rand.NewSource(1))
	sb, _ := record.EncodeShard(shard)
	if s, e := record.DecodeShard(sb); !sameShard(s, shard) || e != api.OK {
		t.Errorf("a shard: %v %d", s, e)
	}
	cb, _ := record.EncodeCoord(coord)
	if c, e := record.DecodeCoord(cb); !sameCoord(c, coord) || e != api.OK {
		t.Errorf("the coordinator: %v %d", c, e)
	}
	for i := range sb {
		if _, e := record.DecodeShard(sb[:i]); e != api.ErrShort {
			t.Errorf("a beginning of %d bytes: %d", i, e)
		}
	}
	for i := range cb {
		if _, e := record.DecodeCoord(cb[:i]); e != api.ErrShort {
			t.Errorf("a beginning of %d bytes: %d", i, e)
		}
	}
	taken := 0
	for range 30000 {
		s, c := bytes.Clone(sb), bytes.Clone(cb)
		s[1+r.Intn(len(s)-1)] = byte(r.Intn(9))
		c[1+r.Intn(len(c)-1)] = byte(r.Intn(9))
		if x, e := record.DecodeShard(s); e == api.OK {
			taken++
			if b, e := record.EncodeShard(x); !bytes.Equal(b, s) || e != api.OK {
				t.Fatalf("DecodeShard takes %x, EncodeShard writes %x", s, b)
			}
		}
		if x, e := record.DecodeCoord(c); e == api.OK {
			taken++
			if b, e := record.EncodeCoord(x); !bytes.Equal(b, c) || e != api.OK {
				t.Fatalf("DecodeCoord takes %x, EncodeCoord writes %x", c, b)
			}
		}
	}
	if taken == 0 {
		t.Error("nothing was taken")
	}
	greatest := api.Shard{Id: 4, Boot: top, Ver: top, Epoch: top, Move: top, Low: top, Frozen: top}
	k := strings.Repeat("k", 12)
	greatest.Cold = api.Range{Lo: k, Hi: k[1:] + "l"}
	greatest.In = api.Inbox{Move: top, Attempt: top, Next: top, Range: greatest.Cold}
	greatest.Owners = []api.Owner{{Shard: 1}}
	for i := range 5 {
		greatest.Owners = append(greatest.Owners, api.Owner{Lo: k[1:] + string(rune('a'+i)), Shard: 4})
	}
	for i := range 6 {
		greatest.Held = append(greatest.Held, api.Hold{Txn: top - uint64(6-i), Ops: ops(24, api.Op{Kind: api.Put, Key: k, Value: strings.Repeat("v", 16)})})
	}
	for i := range 58 {
		greatest.Finished = append(greatest.Finished, top-100+uint64(i))
	}
	b, e := record.EncodeShard(greatest)
	if s, f := record.DecodeShard(b); len(b) > 8192 || !sameShard(s, greatest) || e != api.OK || f != api.OK {
		t.Errorf("the greatest shard: %d bytes, %d %d", len(b), e, f)
	}
}
