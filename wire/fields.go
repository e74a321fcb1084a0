package wire

import (
	"sumpter/api"
	"sumpter/octet"
	"sumpter/reader"
)

const (
	// mostThings is how many there are of anything at the most, and how long a text is, in what is read.
	mostThings = 255
	anyNum     = 1<<64 - 1
)

// write writes some of a message's fields behind some bytes.
func write(b []byte, m api.Msg, fields ...field) []byte {
	for _, f := range fields {
		if x, ok := number(&m, f); ok {
			b = append(b, octet.Num(*x)...)
			continue
		}
		switch f {
		case fieldCode:
			b = append(b, byte(m.Code))
		case fieldPeer:
			b = append(b, byte(m.Peer))
		case fieldFlag:
			b = append(b, truth(m.Flag))
		case fieldRange:
			b = texts(b, m.Range.Lo, m.Range.Hi)
		case fieldOps:
			b = list(b, m.Ops, writeOp)
		case fieldResults:
			b = list(b, m.Results, writeResult)
		case fieldOwners:
			b = list(b, m.Owners, writeOwner)
		}
	}
	return b
}

// number is where a message keeps a field that is a number.
func number(m *api.Msg, f field) (*uint64, bool) {
	switch f {
	case fieldReq:
		return &m.Req, true
	case fieldBoot:
		return &m.Boot, true
	case fieldTxn:
		return &m.Txn, true
	case fieldLow:
		return &m.Low, true
	case fieldEpoch:
		return &m.Epoch, true
	case fieldVer:
		return &m.Ver, true
	case fieldMove:
		return &m.Move, true
	case fieldAttempt:
		return &m.Attempt, true
	case fieldN:
		return &m.N, true
	}
	return nil, false
}

func truth(is bool) byte {
	if is {
		return 1
	}
	return 0
}

// texts writes some texts behind some bytes.
func texts(b []byte, l ...string) []byte {
	for _, s := range l {
		b = append(b, octet.Text(s)...)
	}
	return b
}

// list writes how many things there are, then these.
func list[T any](b []byte, l []T, one func(b []byte, x T) []byte) []byte {
	b = append(b, octet.Num(uint64(len(l)))...)
	for _, x := range l {
		b = one(b, x)
	}
	return b
}

func writeOp(b []byte, o api.Op) []byte {
	return append(texts(append(b, byte(o.Kind)), o.Key, o.Value, o.Lo, o.Hi), byte(o.Most))
}

func writeResult(b []byte, r api.Result) []byte {
	return list(texts(append(b, truth(r.Found)), r.Value), r.Pairs, writePair)
}

func writePair(b []byte, p api.Pair) []byte { return texts(b, p.Key, p.Value) }

func writeOwner(b []byte, o api.Owner) []byte { return append(texts(b, o.Lo), byte(o.Shard)) }

// read reads some of a message's fields.
func read(r *reader.Reader, m *api.Msg, fields ...field) {
	for _, f := range fields {
		if x, ok := number(m, f); ok {
			*x = r.Num(anyNum)
			continue
		}
		switch f {
		case fieldCode:
			m.Code = int(r.Octet())
		case fieldPeer:
			m.Peer = int(r.Octet())
		case fieldFlag:
			m.Flag = readTruth(r)
		case fieldRange:
			readTexts(r, &m.Range.Lo, &m.Range.Hi)
		case fieldOps:
			m.Ops = reader.List(r, mostThings, readOp)
		case fieldResults:
			m.Results = reader.List(r, mostThings, readResult)
		case fieldOwners:
			m.Owners = reader.List(r, mostThings, readOwner)
		}
	}
}

func readTruth(r *reader.Reader) bool {
	x := r.Octet()
	if x > 1 {
		r.Fail(api.ErrForm)
	}
	return x == 1
}

// readTexts reads some texts.
func readTexts(r *reader.Reader, l ...*string) {
	for _, s := range l {
		*s = r.Text(mostThings)
	}
}

func readOp(r *reader.Reader) api.Op {
	o := api.Op{Kind: int(r.Octet())}
	readTexts(r, &o.Key, &o.Value, &o.Lo, &o.Hi)
	o.Most = int(r.Octet())
	return o
}

func readResult(r *reader.Reader) api.Result {
	x := api.Result{Found: readTruth(r)}
	readTexts(r, &x.Value)
	x.Pairs = reader.List(r, mostThings, readPair)
	return x
}

func readPair(r *reader.Reader) api.Pair {
	var p api.Pair
	readTexts(r, &p.Key, &p.Value)
	return p
}

func readOwner(r *reader.Reader) api.Owner {
	var o api.Owner
	readTexts(r, &o.Lo)
	o.Shard = int(r.Octet())
	return o
}
