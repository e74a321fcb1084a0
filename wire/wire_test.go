package wire_test

import (
	"bytes"
	"math/rand"
	"reflect"
	"strings"
	"testing"

	"sumpter/api"
	"sumpter/frame"
	"sumpter/wire"
)

var (
	a1   = []api.Op{{Kind: api.Put, Key: "a", Value: "1"}}
	res  = []api.Result{{Found: true, Value: "v"}, {Pairs: []api.Pair{{Key: "b", Value: "2"}, {Key: "a"}}}}
	own  = []api.Owner{{Lo: "", Shard: 1}, {Lo: "m", Shard: 4}}
	in   = api.Range{Lo: "a", Hi: "m"}
	big  = uint64(1<<64 - 1)
	none = api.Msg{}
)

// bodies are messages, and their bodies as the chapter says.
func bodies() map[string]api.Msg {
	return map[string]api.Msg{
		"\x06\x01\x00\xac\x02":                                                     {Kind: api.Ack, From: 1, Txn: 300},
		"\x01\x0b\x00\x05\x06\x01\x02\x01a\x011\x00\x00\x00":                       {Kind: api.Request, From: 11, Req: 5, Boot: 6, Ops: a1},
		"\x02\x00\x0e\x05\x06\x01\x02\x01\x01v\x00\x00\x00\x02\x01b\x012\x01a\x00": {Kind: api.Answer, To: 14, Req: 5, Boot: 6, Code: api.Committed, Results: res},
		"\x02\x00\x0b\x05\x06\x02\x00":                                             {Kind: api.Answer, To: 11, Req: 5, Boot: 6, Code: api.Aborted},
		"\x03\x00\x04\x07\x05\x09\x01\x04\x00\x00\x01a\x00\x04":                    {Kind: api.Work, To: 4, Txn: 7, Low: 5, Epoch: 9, Ops: []api.Op{{Kind: api.Scan, Lo: "a", Most: 4}}},
		"\x04\x04\x00\x07\x03\x01\x00\x00\x00":                                     {Kind: api.Vote, From: 4, Txn: 7, Code: api.Yes, Results: make([]api.Result, 1)},
		"\x04\x04\x00\x07\x05\x00":                                                 {Kind: api.Vote, From: 4, Txn: 7, Code: api.Died},
		"\x05\x00\x01\x07\x01":                                                     {Kind: api.Decide, To: 1, Txn: 7, Flag: true},
		"\x07\x02\x00\xff\xff\xff\xff\xff\xff\xff\xff\xff\x01":                     {Kind: api.Ask, From: 2, Txn: big},
		"\x08\x00\x03\x01\x02\x03\x02\x00\x01\x01m\x04":                            {Kind: api.Map, To: 3, Ver: 1, Epoch: 2, Move: 3, Owners: own},
		"\x09\x03\x00\x01":                                                         {Kind: api.MapAck, From: 3, Ver: 1},
		"\x0a\x00\x01\x08\x09\x02\x01\x01a\x01m":                                   {Kind: api.Copy, To: 1, Ver: 8, Move: 9, Peer: 2, Flag: true, Range: in},
		"\x0b\x01\x02\x09\x03\x00\x01a\x01m\x02\x05\x00\x00\x01a\x01m\x00\x03\x01c\x00\x00\x00\x00": {Kind: api.Load, From: 1, To: 2, Move: 9, Attempt: 3, Range: in, Ops: []api.Op{{Kind: api.Clear, Lo: "a", Hi: "m"}, {Kind: api.Del, Key: "c"}}},
		"\x0b\x01\x02\x09\x03\x00\x00\x00\x00":                                                      {Kind: api.Load, From: 1, To: 2, Move: 9, Attempt: 3},
		"\x0c\x02\x01\x09\x03\x04":                                                                  {Kind: api.Loaded, From: 2, To: 1, Move: 9, Attempt: 3, N: 4},
		"\x0d\x02\x00\x09":                                                                          {Kind: api.Copied, From: 2, Move: 9},
		"\x0e\x02\x00\x09":                                                                          {Kind: api.Frozen, From: 2, Move: 9},
	}
}

func same(a, b api.Msg) bool {
	norm := func(m *api.Msg) {
		m.Ops = append([]api.Op{}, m.Ops...)
		m.Owners = append([]api.Owner{}, m.Owners...)
		m.Results = append([]api.Result{}, m.Results...)
		for i := range m.Results {
			m.Results[i].Pairs = append([]api.Pair{}, m.Results[i].Pairs...)
		}
	}
	norm(&a)
	norm(&b)
	return reflect.DeepEqual(a, b)
}

// rights are a message of each kind.
func rights() []api.Msg {
	var l []api.Msg
	for kind := 1; kind <= 14; kind++ {
		for _, m := range bodies() {
			if m.Kind == kind {
				l = append(l, m)
				break
			}
		}
	}
	return l
}

func isMsg(t *testing.T, name string, m api.Msg, want bool) {
	t.Helper()
	e := wire.Check(m)
	b, f := wire.Encode(m)
	if want && (e != api.OK || f != api.OK) || !want && (e != api.ErrMsg || f != api.ErrMsg || b != nil) {
		t.Errorf("%s of kind %d: Check %d, Encode %d", name, m.Kind, e, f)
	}
}

func TestP18_1Nodes(t *testing.T) {
	for _, m := range rights() {
		isMsg(t, "right", m, true)
		role := func(n int) int {
			switch {
			case n == 0:
				return 0
			case n >= 1 && n <= 4:
				return 1
			case n >= 11 && n <= 14:
				return 2
			}
			return 3
		}
		for _, n := range []int{-1, 0, 1, 2, 3, 4, 5, 10, 11, 12, 14, 15, 256, 267, 1 << 40} {
			x, y := m, m
			x.From, y.To = n, n
			isMsg(t, "From", x, role(n) == role(m.From) && x.From != x.To)
			isMsg(t, "To", y, role(n) == role(m.To) && y.From != y.To)
		}
	}
	for _, kind := range []int{0, -1, 15, 257, 1 << 40} {
		isMsg(t, "a kind", api.Msg{Kind: kind, From: 1}, false)
	}
}

func TestP18_1Fields(t *testing.T) {
	fields := map[string]func(m *api.Msg){
		"Client": func(m *api.Msg) { m.Client = 1 }, "Code": func(m *api.Msg) { m.Code = api.Yes }, "Peer": func(m *api.Msg) { m.Peer = 3 },
		"Req": func(m *api.Msg) { m.Req = 9 }, "Boot": func(m *api.Msg) { m.Boot = 9 }, "Txn": func(m *api.Msg) { m.Txn = 9 }, "Low": func(m *api.Msg) { m.Low = 9 }, "Ver": func(m *api.Msg) { m.Ver = 9 },
		"Epoch": func(m *api.Msg) { m.Epoch = 9 }, "Move": func(m *api.Msg) { m.Move = 9 }, "Attempt": func(m *api.Msg) { m.Attempt = 9 }, "N": func(m *api.Msg) { m.N = 9 },
		"Flag": func(m *api.Msg) { m.Flag = true }, "Range": func(m *api.Msg) { m.Range = in }, "Ops": func(m *api.Msg) { m.Ops = a1 }, "Results": func(m *api.Msg) { m.Results = res }, "Owners": func(m *api.Msg) { m.Owners = own },
	}
	has := map[int]string{1: " Req Boot Ops ", 2: " Req Boot Code Results ", 3: " Txn Low Epoch Ops ", 4: " Txn Code Results ", 5: " Txn Flag ", 6: " Txn ", 7: " Txn ", 8: " Ver Epoch Move Owners ", 9: " Ver ", 10: " Ver Move Peer Flag Range ", 11: " Move Attempt N Range Ops ", 12: " Move Attempt N ", 13: " Move ", 14: " Move "}
	for _, m := range rights() {
		for name, set := range fields {
			x := m
			set(&x)
			want := strings.Contains(has[m.Kind], " "+name+" ")
			if name == "Code" && m.Kind == api.Answer {
				want = false
			}
			isMsg(t, name, x, want)
		}
		lists := m
		lists.Ops, lists.Results, lists.Owners = a1, res[:1], own[:1]
		isMsg(t, "lists", lists, false)
	}
}

func TestP18_1Limits(t *testing.T) {
	of := func(kind int) api.Msg {
		for _, m := range rights() {
			if m.Kind == kind {
				return m
			}
		}
		return none
	}
	ops := func(n int, o api.Op) []api.Op {
		var l []api.Op
		for range n {
			l = append(l, o)
		}
		return l
	}
	get, put, bad := api.Op{Kind: api.Get, Key: "a"}, api.Op{Kind: api.Put, Key: "a"}, api.Op{Kind: api.Put}
	for _, x := range []struct {
		kind, least, most int
		reads             bool
	}{{api.Request, 1, 4, true}, {api.Work, 1, 24, true}, {api.Load, 0, 6, false}} {
		m := of(x.kind)
		for n := range 30 {
			m.Ops = ops(n, put)
			isMsg(t, "Ops", m, n >= x.least && n <= x.most)
		}
		m.Ops = []api.Op{put, get}
		isMsg(t, "Ops that read", m, x.reads)
		m.Ops = []api.Op{put, bad}
		isMsg(t, "Ops that may not be", m, false)
		m.Ops = []api.Op{{}}
		isMsg(t, "no Ops", m, false)
	}
	for _, x := range []struct{ kind, most int }{{api.Answer, 4}, {api.Vote, 24}} {
		m := of(x.kind)
		for n := range 30 {
			m.Results = make([]api.Result, n)
			isMsg(t, "Results", m, n <= x.most)
		}
		for n := range 6 {
			m.Results = []api.Result{{}, {Pairs: bytesPairs(n)}}
			isMsg(t, "Pairs", m, n <= 4)
		}
		for _, r := range []struct {
			r  api.Result
			ok bool
		}{{api.Result{Value: strings.Repeat("v", 16)}, true}, {api.Result{Value: strings.Repeat("v", 17)}, false}, {api.Result{Pairs: []api.Pair{{Key: ""}}}, false}, {api.Result{Pairs: []api.Pair{{Key: strings.Repeat("k", 13)}}}, false}, {api.Result{Pairs: []api.Pair{{Key: "a", Value: strings.Repeat("v", 17)}}}, false}, {api.Result{Found: true, Value: "v", Pairs: []api.Pair{{Key: "b"}, {Key: "a"}, {Key: "a"}}}, true}} {
			m.Results = []api.Result{r.r}
			isMsg(t, "a Result", m, r.ok)
		}
	}
	for code := -1; code < 8; code++ {
		m := of(api.Answer)
		m.Code = code
		isMsg(t, "Code", m, code == api.Committed || code == api.Aborted)
		m = of(api.Vote)
		m.Code = code
		isMsg(t, "Code", m, code == api.Yes || code == api.Refused || code == api.Died)
		m = of(api.Copy)
		m.Peer = code
		isMsg(t, "Peer", m, code >= 1 && code <= 4)
	}
	for _, kind := range []int{api.Copy, api.Load} {
		m := of(kind)
		m.Range = api.Range{Lo: "b", Hi: "a"}
		isMsg(t, "Range", m, false)
		m.Range = api.Range{}
		isMsg(t, "Range", m, true)
	}
	m := of(api.Map)
	for _, l := range [][]api.Owner{nil, {{Lo: "a", Shard: 1}}, {{Shard: 5}}} {
		m.Owners = l
		isMsg(t, "Owners", m, false)
	}
	m = of(api.Copy)
	m.To, m.Peer = 1, 1
	isMsg(t, "Peer and To", m, true)
}

func bytesPairs(n int) []api.Pair {
	var l []api.Pair
	for range n {
		l = append(l, api.Pair{Key: "k"})
	}
	return l
}

func TestP18_2Encode(t *testing.T) {
	for body, m := range bodies() {
		want, _ := frame.Seal([]byte(body))
		if b, e := wire.Encode(m); !bytes.Equal(b, want) || e != api.OK {
			t.Errorf("Encode of kind %d: %x %d, want %x", m.Kind, b, e, want)
		}
		if got, e := wire.Decode(want); !same(got, m) || e != api.OK {
			t.Errorf("Decode of kind %d: %v %d", m.Kind, got, e)
		}
	}
}

func TestP18_3Decode(t *testing.T) {
	long := strings.Repeat("x", 256)
	for body, want := range map[string]api.Errno{
		"": api.ErrShort, "\x00": api.ErrForm, "\x0f": api.ErrForm, "\xff": api.ErrForm, "\x06": api.ErrShort, "\x06\x01": api.ErrShort, "\x06\x01\x00": api.ErrShort,
		"\x06\x05\x00\x01":                     api.ErrMsg,
		"\x06\x01\x01\x01":                     api.ErrMsg,
		"\x06\x01\x00\x01\x00":                 api.ErrForm,
		"\x06\x01\x00\x80":                     api.ErrShort,
		"\x06\x01\x00\x80\x00":                 api.ErrForm,
		"\x05\x00\x01\x07\x02":                 api.ErrForm,
		"\x05\x00\x01\x07":                     api.ErrShort,
		"\x05\x00\x63\x07\x02":                 api.ErrForm,
		"\x01\x0b\x00\x05\x06\x00":             api.ErrMsg,
		"\x01\x0b\x00\x05\x06\xff\x01":         api.ErrShort,
		"\x01\x0b\x00\x05\x06\x80\x02":         api.ErrForm,
		"\x01\x0b\x00\x05\x06\x01\x02\xff\x01": api.ErrShort,
		"\x01\x0b\x00\x05\x06\x01\x02\xff\x01" + long[1:] + "\x00\x00\x00\x00": api.ErrMsg,
		"\x01\x0b\x00\x05\x06\x01\x02\x80\x02" + long + "\x00\x00\x00\x00":     api.ErrForm,
		"\x01\x0b\x00\x05\x06\x01\x02\x80\x02":                                 api.ErrForm,
		"\x01\x0b\x00\x05\x06\x01\xfe\x01a\x00\x00\x00\x00":                    api.ErrMsg,
		"\x01\x0b\x00\x05\x06\x01\x02\x01a\x011\x00\x00\xff":                   api.ErrMsg,
		"\x02\x00\x0b\x05\x06\x01\x01\x02":                                     api.ErrForm,
		"\x02\x00\x0b\x05\x06\x01\x01\x01\x00\x80\x02":                         api.ErrForm,
		"\x02\x00\x0b\x05\x06\x01\x01\x01\x00\x01\x00\x00":                     api.ErrMsg,
		"\x02\x00\x0b\x05\x06\x63\x00":                                         api.ErrMsg,
		"\x08\x00\x03\x01\x02\x03\x80\x02":                                     api.ErrForm,
		"\x08\x00\x03\x01\x02\x03\x01\x00\x09":                                 api.ErrMsg,
		"\x08\x00\x03\x01\x02\x03\x00":                                         api.ErrMsg,
	} {
		b, _ := frame.Seal([]byte(body))
		if m, e := wire.Decode(b); !same(m, none) || e != want {
			t.Errorf("Decode(%x): %d, want %d", body, e, want)
		}
	}
	good, _ := wire.Encode(rights()[0])
	for i, b := range [][]byte{nil, {1, 2, 3}, good[:len(good)-1], append(bytes.Clone(good), 0), make([]byte, 9000)} {
		_, want := frame.Open(b)
		if m, e := wire.Decode(b); !same(m, none) || e != want || e == api.OK {
			t.Errorf("%d: Decode: %d, want %d", i, e, want)
		}
	}
}

func TestP18_4Follows(t *testing.T) {
	r := rand.New(rand.NewSource(1))
	var seeds []string
	for body, m := range bodies() {
		seeds = append(seeds, body)
		for i := range body {
			b, _ := frame.Seal([]byte(body[:i]))
			if _, e := wire.Decode(b); e != api.ErrShort {
				t.Errorf("Decode of a beginning of kind %d: %d", m.Kind, e)
			}
		}
	}
	taken := 0
	for range 30000 {
		body := []byte(seeds[r.Intn(len(seeds))])
		for range 1 + r.Intn(2) {
			body[r.Intn(len(body))] = byte(r.Intn(16))
		}
		b, _ := frame.Seal(body)
		m, e := wire.Decode(b)
		if e != api.OK {
			continue
		}
		taken++
		if c, e := wire.Encode(m); !bytes.Equal(c, b) || e != api.OK {
			t.Fatalf("Decode takes %x, Encode writes %x", b, c)
		}
	}
	if taken == 0 {
		t.Error("nothing was taken")
	}
	full := api.Result{Found: true, Value: strings.Repeat("v", 16)}
	for range 4 {
		full.Pairs = append(full.Pairs, api.Pair{Key: strings.Repeat("k", 12), Value: strings.Repeat("v", 16)})
	}
	m := api.Msg{Kind: api.Vote, From: 1, Txn: big, Code: api.Yes}
	for range 24 {
		m.Results = append(m.Results, full)
	}
	b, e := wire.Encode(m)
	if got, f := wire.Decode(b); !same(got, m) || e != api.OK || f != api.OK {
		t.Errorf("the greatest message: %d %d", e, f)
	}
}
