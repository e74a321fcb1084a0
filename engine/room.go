package engine

import (
	"sumpter/api"
	"sumpter/cache"
	"sumpter/pages"
)

// atHand is how many pages are kept at hand.
const atHand = 32

// room is the store's pages, read through a cache; what it embeds frees them, and makes them last.
type room struct {
	*pages.Store
	hand *cache.Cache
	// most is how many pages the store has.
	most int
}

// newRoom makes one of a store all of whose pages are as they were made last.
func newRoom(s *pages.Store) (*room, api.Errno) {
	hand, e := cache.New(atHand, shelf{s})
	if e != api.OK {
		return nil, e
	}
	return &room{Store: s, hand: hand, most: s.Left() + len(s.Used())}, api.OK
}

// shelf is where the cache reads from.
type shelf struct{ store *pages.Store }

func (f shelf) Load(id int) ([]byte, api.Errno) { return f.store.Read(id) }

// Save has nothing to do: what the cache is told stands in the store already.
func (f shelf) Save(id int, b []byte) api.Errno { return api.OK }

func (f shelf) Safe() uint64 { return 0 }

func (f shelf) Force(lsn uint64) api.Errno { return api.OK }

// Read reads a page.
func (r *room) Read(id int) ([]byte, api.Errno) {
	b, e := r.hand.Pin(id)
	if e != api.OK {
		return nil, e
	}
	return b, r.hand.Unpin(id)
}

// Write writes a page; an elder one that had its number may still be at hand.
func (r *room) Write(b []byte) (int, api.Errno) {
	id, e := r.Store.Write(b)
	if e != api.OK || !r.hand.Has(id) {
		return id, e
	}
	if _, e := r.hand.Pin(id); e != api.OK {
		return 0, e
	}
	if e := r.hand.Put(id, b, 0); e != api.OK {
		return 0, e
	}
	return id, r.hand.Unpin(id)
}
