package record

import (
	"sumpter/api"
	"sumpter/reader"
)

const (
	// most is how many there are of anything at the most, how long a text is, and how great a number that stands in an int.
	most   = 255
	anyNum = 1<<64 - 1
)

func readNum(r *reader.Reader) uint64  { return r.Num(anyNum) }
func readInt(r *reader.Reader) int     { return int(r.Num(most)) }
func readText(r *reader.Reader) string { return r.Text(most) }

func readRange(r *reader.Reader) api.Range {
	lo := readText(r)
	return api.Range{Lo: lo, Hi: readText(r)}
}

func readOwner(r *reader.Reader) api.Owner {
	lo := readText(r)
	return api.Owner{Lo: lo, Shard: readInt(r)}
}

func readOp(r *reader.Reader) api.Op {
	o := api.Op{Kind: readInt(r)}
	o.Key = readText(r)
	o.Value = readText(r)
	o.Lo = readText(r)
	o.Hi = readText(r)
	o.Most = readInt(r)
	return o
}

func readHold(r *reader.Reader) api.Hold {
	txn := readNum(r)
	return api.Hold{Txn: txn, Ops: reader.List(r, most, readOp)}
}

func readInbox(r *reader.Reader) api.Inbox {
	in := api.Inbox{Move: readNum(r)}
	in.Attempt = readNum(r)
	in.Next = readNum(r)
	in.Range = readRange(r)
	return in
}

func readDecision(r *reader.Reader) api.Decision {
	d := api.Decision{Txn: readNum(r)}
	d.Client = readInt(r)
	d.Boot = readNum(r)
	d.Req = readNum(r)
	d.Shards = reader.List(r, most, readInt)
	return d
}

func readPair(r *reader.Reader) api.Pair {
	key := readText(r)
	return api.Pair{Key: key, Value: readText(r)}
}

func readResult(r *reader.Reader) api.Result {
	x := api.Result{Found: r.Num(1) == 1}
	x.Value = readText(r)
	x.Pairs = reader.List(r, most, readPair)
	return x
}

func readLast(r *reader.Reader) api.Last {
	l := api.Last{Client: readInt(r)}
	l.Boot = readNum(r)
	l.Req = readNum(r)
	l.Results = reader.List(r, most, readResult)
	return l
}

// begin begins to read bytes whose first one is a mark.
func begin(b []byte, mark byte) *reader.Reader {
	r := reader.New(b)
	if len(b) > api.MaxNote {
		r.Fail(api.ErrLong)
	}
	if r.Octet() != mark {
		r.Fail(api.ErrForm)
	}
	return r
}

// DecodeShard is the shard's state of some bytes.
func DecodeShard(b []byte) (api.Shard, api.Errno) {
	r := begin(b, shardMark)
	s := api.Shard{Id: readInt(r)}
	s.Boot = readNum(r)
	s.Ver = readNum(r)
	s.Epoch = readNum(r)
	s.Move = readNum(r)
	s.Owners = reader.List(r, most, readOwner)
	s.Held = reader.List(r, most, readHold)
	s.Finished = reader.List(r, most, readNum)
	s.Low = readNum(r)
	s.Frozen = readNum(r)
	s.Cold = readRange(r)
	s.In = readInbox(r)
	r.End()
	if e := r.Err(); e != api.OK {
		return api.Shard{}, e
	}
	if e := CheckShard(s); e != api.OK {
		return api.Shard{}, e
	}
	return s, api.OK
}

// DecodeCoord is the coordinator's state of some bytes.
func DecodeCoord(b []byte) (api.Coord, api.Errno) {
	r := begin(b, coordMark)
	c := api.Coord{Shards: readInt(r)}
	c.Boot = readNum(r)
	c.Ver = readNum(r)
	c.Epoch = readNum(r)
	c.Owners = reader.List(r, most, readOwner)
	c.Decided = reader.List(r, most, readDecision)
	c.Last = reader.List(r, most, readLast)
	r.End()
	if e := r.Err(); e != api.OK {
		return api.Coord{}, e
	}
	if e := CheckCoord(c); e != api.OK {
		return api.Coord{}, e
	}
	return c, api.OK
}
