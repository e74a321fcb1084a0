package log

import (
	"sumpter/api"
	"sumpter/octet"
)

const (
	// mark begins a head.
	mark = "lg"
	// A head: mark, its number, the first record's number, where it stands, a sum of all.
	headSeqAt   = 2
	headFirstAt = 10
	headAt      = 18
	headSumAt   = 22
	// A sector of the ring: the record's number, which part of it this is, how many bytes the record has, then these.
	recPartAt = 8
	recSizeAt = 12
	recBodyAt = api.Sector - partLen
)

// head is where the log begins; of two, that with the greater number holds.
type head struct {
	seq   uint64
	first uint64
	at    int
}

// giveUp is what whoever reads panics with.
type giveUp struct{ errno api.Errno }

// caught turns what was recovered into an error.
func caught(x any) api.Errno {
	if g, ok := x.(giveUp); ok {
		return g.errno
	}
	return api.ErrDevice
}

// fixed64 is a number in eight bytes.
func fixed64(n uint64) []byte {
	low, high := octet.Fixed(uint32(n)), octet.Fixed(uint32(n>>32))
	return append(low[:], high[:]...)
}

// read64 is the number of eight bytes.
func read64(b []byte) uint64 {
	low, _ := octet.ReadFixed(b)
	high, _ := octet.ReadFixed(b[4:])
	return uint64(low) | uint64(high)<<32
}

// writeHead lays a head down, in the place of the elder one of two, and makes it last.
func (l *Log) writeHead(h head) api.Errno {
	at := octet.Fixed(uint32(h.at))
	var b [api.Sector]byte
	copy(b[:], mark)
	copy(b[headSeqAt:], fixed64(h.seq))
	copy(b[headFirstAt:], fixed64(h.first))
	copy(b[headAt:], at[:])
	sum := octet.Fixed(octet.Sum(b[:headSumAt]))
	copy(b[headSumAt:], sum[:])
	if e := l.disk.Write(l.from+int(h.seq%heads), b[:]); e != api.OK {
		return e
	}
	if e := l.disk.Sync(); e != api.OK {
		return e
	}
	l.head = h
	return api.OK
}

// sector reads one of the log's sectors, or gives up.
func (l *Log) sector(i int) []byte {
	b, e := l.disk.Read(l.from + i)
	if e != api.OK {
		panic(giveUp{e})
	}
	return b
}

// ringSector reads a sector of the ring, or gives up.
func (l *Log) ringSector(at int) []byte { return l.sector(headSectors + at%l.ring) }

// readHead reads the head that holds, or gives up.
func (l *Log) readHead() head {
	var best head
	found := false
	for i := range heads {
		b := l.sector(i)
		sum, _ := octet.ReadFixed(b[headSumAt:])
		if string(b[:headSeqAt]) != mark || sum != octet.Sum(b[:headSumAt]) {
			continue
		}
		at, _ := octet.ReadFixed(b[headAt:])
		h := head{seq: read64(b[headSeqAt:]), first: read64(b[headFirstAt:]), at: int(at)}
		if h.at < l.ring && (!found || h.seq > best.seq) {
			best, found = h, true
		}
	}
	if !found {
		panic(giveUp{api.ErrDevice})
	}
	return best
}

// writePart writes a part of a record.
func (l *Log) writePart(at, part int, lsn uint64, b []byte) api.Errno {
	var s [api.Sector]byte
	copy(s[:], fixed64(lsn))
	index, size := octet.Fixed(uint32(part)), octet.Fixed(uint32(len(b)))
	copy(s[recPartAt:], index[:])
	copy(s[recSizeAt:], size[:])
	copy(s[recBodyAt:], b[part*partLen:])
	return l.disk.Write(l.from+headSectors+(at+part)%l.ring, s[:])
}

// readPart reads a part of the record of that number, or gives up; false, if it does not stand there. It tells the record's size, too.
func (l *Log) readPart(at, part int, lsn uint64) (body []byte, size int, ok bool) {
	b := l.ringSector(at + part)
	index, _ := octet.ReadFixed(b[recPartAt:])
	n, _ := octet.ReadFixed(b[recSizeAt:])
	if read64(b) != lsn || index != uint32(part) || n > api.MaxRecord {
		return nil, 0, false
	}
	return b[recBodyAt:], int(n), true
}

// readRec reads the record of that number, if the whole of it stands there, or gives up.
func (l *Log) readRec(at int, lsn uint64) ([]byte, bool) {
	b, size, ok := l.readPart(at, 0, lsn)
	if !ok {
		return nil, false
	}
	for i := 1; i < need(size); i++ {
		more, n, ok := l.readPart(at, i, lsn)
		if !ok || n != size {
			return nil, false
		}
		b = append(b, more...)
	}
	return append([]byte(nil), b[:size]...), true
}

// blank takes away what stood on the log's sectors: it might be taken for heads, or records, of this log.
func (l *Log) blank() (e api.Errno) {
	defer func() {
		if x := recover(); x != nil {
			e = caught(x)
		}
	}()
	for i := range heads {
		if e := l.disk.Write(l.from+i, make([]byte, api.Sector)); e != api.OK {
			return e
		}
	}
	return l.wipe(1)
}

// wipe takes away all parts of records from a number on, or gives up.
func (l *Log) wipe(from uint64) api.Errno {
	for i := range l.ring {
		if read64(l.ringSector(i)) < from {
			continue
		}
		if e := l.disk.Write(l.from+headSectors+i, make([]byte, api.Sector)); e != api.OK {
			return e
		}
	}
	return api.OK
}

// find finds out what stands there.
func (l *Log) find() (e api.Errno) {
	defer func() {
		if x := recover(); x != nil {
			e = caught(x)
		}
	}()
	l.head = l.readHead()
	for {
		at := l.end()
		b, ok := l.readRec(at, l.Next())
		if !ok || need(len(b)) > l.ring-l.used {
			break
		}
		l.recs = append(l.recs, place{at, len(b)})
		l.used += need(len(b))
	}
	// Parts of records that were not safe might be taken for parts of those that come.
	if e := l.wipe(l.Next()); e != api.OK {
		return e
	}
	return l.Sync()
}

// readFrom reads the records from a number on.
func (l *Log) readFrom(from uint64) (recs []Rec, e api.Errno) {
	defer func() {
		if x := recover(); x != nil {
			recs, e = nil, caught(x)
		}
	}()
	for i, r := range l.recs[from-l.First():] {
		lsn := from + uint64(i)
		b, ok := l.readRec(r.at, lsn)
		if !ok {
			panic(giveUp{api.ErrDevice})
		}
		recs = append(recs, Rec{Lsn: lsn, Bytes: b})
	}
	return recs, api.OK
}
