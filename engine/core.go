package engine

import (
	"bytes"

	"sumpter/api"
	"sumpter/buffer"
	"sumpter/disk"
	"sumpter/log"
	"sumpter/octet"
	"sumpter/span"
	"sumpter/tree"
)

// core is what an engine is made of.
type core struct {
	disk *disk.Disk
	log  *log.Log
	room *room
	// waits are the operations that the log has, and the tree has not.
	waits []api.Entry
	note  []byte
}

// seqOf is the number of a record's i-th operation.
func seqOf(lsn uint64, i int) uint64 { return lsn*mostOps + uint64(i) }

// record is what the log keeps of a Do.
func record(l []api.Op, note []byte) []byte {
	b := octet.Num(uint64(len(l)))
	for _, o := range l {
		b = append(b, byte(o.Kind))
		for _, s := range []string{o.Key + o.Lo, o.Value + o.Hi} {
			b = append(b, octet.Text(s)...)
		}
	}
	return append(b, note...)
}

// readRecord is what a record says.
func readRecord(b []byte) (l []api.Op, note []byte, e api.Errno) {
	n, k, e := octet.ReadNum(b)
	if e != api.OK || n > mostOps {
		return nil, nil, api.ErrDevice
	}
	b = b[k:]
	for range n {
		if len(b) == 0 {
			return nil, nil, api.ErrDevice
		}
		o := api.Op{Kind: int(b[0])}
		first, k, e := octet.ReadText(b[1:], api.MaxKey)
		if e != api.OK {
			return nil, nil, api.ErrDevice
		}
		b = b[1+k:]
		second, k, e := octet.ReadText(b, api.MaxValue)
		if e != api.OK {
			return nil, nil, api.ErrDevice
		}
		b = b[k:]
		if o.Kind == api.Clear {
			o.Lo, o.Hi = first, second
		} else {
			o.Key, o.Value = first, second
		}
		l = append(l, o)
	}
	return l, b, api.OK
}

// take lets operations wait for the tree, and keeps the note.
func (c *core) take(lsn uint64, l []api.Op, note []byte) api.Errno {
	waits := c.waits
	for i, o := range l {
		waits = append(waits, api.Entry{Seq: seqOf(lsn, i), Op: o})
	}
	squeezed, e := buffer.Squeeze(waits)
	if e != api.OK {
		return e
	}
	c.waits, c.note = squeezed, bytes.Clone(note)
	return api.OK
}

// replay does anew what the log has.
func (c *core) replay() api.Errno {
	recs, e := c.log.Tail(c.log.First())
	if e != api.OK {
		return e
	}
	for _, r := range recs {
		l, note, e := readRecord(r.Bytes)
		if e != api.OK {
			return e
		}
		if c.take(r.Lsn, l, note) != api.OK {
			return api.ErrDevice
		}
	}
	applied := readTag(c.room.Tag())
	for len(c.waits) > 0 && c.waits[0].Seq <= applied {
		c.waits = c.waits[1:]
	}
	return api.OK
}

// tag is what stands beside the tree: the number of the last operation that was brought into it.
func tag(seq uint64) []byte { return octet.Num(seq) }

func readTag(b []byte) uint64 {
	seq, _, _ := octet.ReadNum(b)
	return seq
}

// checkpoint brings all into the tree, and lets the log begin anew: its last record stays, as it has the note.
func (c *core) checkpoint() api.Errno {
	for len(c.waits) > 0 {
		if e := c.bring(); e != api.OK {
			return e
		}
	}
	if c.log.Next() == c.log.First() {
		return api.OK
	}
	return c.log.Truncate(c.log.Next() - 1)
}

// bring brings some of what waits into the tree: all of it, if there is room.
func (c *core) bring() api.Errno {
	root, e := c.put(len(c.waits))
	if e == api.OK && len(c.room.Used()) <= c.room.most/2 {
		return c.commit(root, len(c.waits))
	}
	// Made anew the tree takes less room.
	if root, e := c.rebuild(); e != api.ErrFull {
		if e != api.OK {
			return e
		}
		return c.commit(root, len(c.waits))
	}
	// Little by little less has to be written beside what is kept.
	for n := len(c.waits); n > 0; n /= 2 {
		root, e := c.put(n)
		if e == api.OK {
			return c.commit(root, n)
		}
		if e != api.ErrFull {
			return e
		}
	}
	c.room.Revert()
	return api.ErrFull
}

// put puts the first ones of what waits into the tree as it was made last.
func (c *core) put(n int) (int, api.Errno) {
	c.room.Revert()
	return tree.Put(c.room, c.room.Root(), c.waits[:n])
}

// rebuild builds a tree of the whole map, in the place of that which was made last.
func (c *core) rebuild() (int, api.Errno) {
	c.room.Revert()
	m, e := c.scan(api.Range{}, -1)
	if e != api.OK {
		return 0, e
	}
	for _, id := range c.room.Used() {
		if e := c.room.Free(id); e != api.OK {
			return 0, e
		}
	}
	return tree.Build(c.room, m)
}

// commit makes a tree last that has the first ones of what waits.
func (c *core) commit(root, n int) api.Errno {
	if e := c.room.Commit(root, tag(c.waits[n-1].Seq)); e != api.OK {
		return e
	}
	c.waits = c.waits[n:]
	return api.OK
}

// scan tells the first pairs of a range; all, if most is below 0.
func (c *core) scan(in api.Range, most int) ([]api.Pair, api.Errno) {
	waits := touching(c.waits, in)
	want := most
	if len(waits) > 0 {
		// What waits may take away any of the tree's pairs.
		want = -1
	}
	m, e := tree.Scan(c.room, c.room.Root(), in, want)
	if e != api.OK || len(waits) == 0 {
		return m, e
	}
	m, e = buffer.Apply(m, waits)
	if e != api.OK {
		return nil, e
	}
	if most >= 0 && most < len(m) {
		m = m[:most:most]
	}
	return m, api.OK
}

// touching are the entries that touch a range, a Clear as far as it does.
func touching(l []api.Entry, in api.Range) []api.Entry {
	var out []api.Entry
	for _, x := range l {
		if x.Op.Kind != api.Clear {
			if span.Has(in, x.Op.Key) {
				out = append(out, x)
			}
			continue
		}
		if r, ok := span.Meet(in, api.Range{Lo: x.Op.Lo, Hi: x.Op.Hi}); ok {
			x.Op.Lo, x.Op.Hi = r.Lo, r.Hi
			out = append(out, x)
		}
	}
	return out
}
