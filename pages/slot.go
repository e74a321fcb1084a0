package pages

import (
	"bytes"
	"cmp"

	"sumpter/api"
	"sumpter/octet"
)

const (
	// slotLen is how many sectors a slot has.
	slotLen = 2
	// mark begins each of a slot's sectors.
	mark = "pgs"
	// bodyLen is how many bytes of a commit a slot's sector holds, behind its mark, its place and its number, ahead of its sum.
	bodyLen  = api.Sector - 12
	commitAt = 8
	sumAt    = api.Sector - 4
)

// commit is what a Commit makes last, but the pages' bytes.
type commit struct {
	root int
	tag  []byte
	bits []byte
}

// slot is what was read of one: whether its sectors are of one commit, its number, and the greatest number in any of its sectors.
type slot struct {
	commit commit
	whole  bool
	seq    uint32
	seen   uint32
}

// later tells which one of two is there and has the greater number: 0 or 1; not ok, if neither is there.
func later[N cmp.Ordered](a, b N, hasA, hasB bool) (which int, ok bool) {
	if hasB && (!hasA || b > a) {
		return 1, true
	}
	return 0, hasA
}

// slotSector is where a slot begins.
func (s *Store) slotSector(i int) int { return s.first + i*slotLen }

// pack is a commit as bytes; how many pages there are stands there, so that a store is not taken for one of another size.
func (s *Store) pack(c commit) []byte {
	b := make([]byte, slotLen*bodyLen)
	b[0], b[1] = byte(s.pages), byte(s.pages>>8)
	b[2], b[3] = byte(c.root), byte(c.root>>8)
	b[4] = byte(len(c.tag))
	copy(b[5:], c.tag)
	copy(b[5+mostTag:], c.bits)
	return b
}

// unpack is the commit of some bytes.
func (s *Store) unpack(b []byte) (commit, bool) {
	pages, root, n := int(b[0])|int(b[1])<<8, int(b[2])|int(b[3])<<8, int(b[4])
	if pages != s.pages || root > pages || n > mostTag {
		return commit{}, false
	}
	bits := b[5+mostTag : 5+mostTag+(pages+7)/8]
	if pages%8 != 0 && bits[len(bits)-1]>>uint(pages%8) != 0 {
		return commit{}, false
	}
	return commit{root: root, tag: bytes.Clone(b[5 : 5+n]), bits: bytes.Clone(bits)}, true
}

// writeSlot lays a commit down. Each sector has the number, which no sector had before: so sectors of two commits are told apart.
func (s *Store) writeSlot(i int, c commit, seq uint32) api.Errno {
	b := s.pack(c)
	number := octet.Fixed(seq)
	for part := range slotLen {
		sector := append([]byte(mark), byte(part))
		sector = append(sector, number[:]...)
		sector = append(sector, b[part*bodyLen:(part+1)*bodyLen]...)
		sum := octet.Fixed(octet.Sum(sector))
		if e := s.disk.Write(s.slotSector(i)+part, append(sector, sum[:]...)); e != api.OK {
			return e
		}
	}
	return api.OK
}

// readSlot reads one.
func (s *Store) readSlot(i int) (slot, api.Errno) {
	var found slot
	var body []byte
	found.whole = true
	for part := range slotLen {
		sector, e := s.disk.Read(s.slotSector(i) + part)
		if e != api.OK {
			return slot{}, e
		}
		seq, ok := numberOf(sector, part)
		if !ok || part > 0 && seq != found.seq {
			found.whole = false
		}
		found.seq = seq
		found.seen = max(found.seen, seq)
		body = append(body, sector[commitAt:sumAt]...)
	}
	if found.whole {
		found.commit, found.whole = s.unpack(body)
	}
	return found, api.OK
}

// numberOf is the number in a slot's sector, if it is one.
func numberOf(sector []byte, part int) (uint32, bool) {
	sum, _ := octet.ReadFixed(sector[sumAt:])
	if string(sector[:len(mark)]) != mark || int(sector[len(mark)]) != part || sum != octet.Sum(sector[:sumAt]) {
		return 0, false
	}
	seq, _ := octet.ReadFixed(sector[len(mark)+1:])
	return seq, true
}
