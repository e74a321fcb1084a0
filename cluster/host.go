package cluster

import (
	"errors"
	"slices"
	"strconv"

	"sumpter/api"
	"sumpter/coord"
	"sumpter/disk"
	"sumpter/engine"
	"sumpter/part"
	"sumpter/record"
)

// sectors is how many sectors a node's device has.
const sectors = 2048

var (
	errDown    = errors.New("the device is down")
	errRefused = errors.New("the engine does not take it")
)

// fault is an error of a device, and of which node it is.
type fault struct {
	node int
	err  error
}

func (f *fault) Error() string { return "node " + strconv.Itoa(f.node) + ": " + f.err.Error() }

func (f *fault) Unwrap() error { return f.err }

// deed is what a machine makes happen.
type deed struct {
	out    []api.Msg
	writes []api.Op
	lasts  bool
}

// machine is what a node does.
type machine interface {
	take(x api.Msg) (deed, api.Errno)
	tick() (deed, api.Errno)
	note() ([]byte, api.Errno)
	doubt() int
	Idle() bool
}

// shard is a machine that is a shard.
type shard struct{ *part.Machine }

func partDeed(d part.Deed) deed { return deed{d.Out, d.Writes, d.Lasts} }

func (s shard) take(x api.Msg) (deed, api.Errno) {
	d, e := s.Take(x)
	return partDeed(d), e
}

func (s shard) tick() (deed, api.Errno) {
	d, e := s.Tick()
	return partDeed(d), e
}

func (s shard) note() ([]byte, api.Errno) { return record.EncodeShard(s.State()) }

func (s shard) doubt() int { return len(s.State().Held) }

// coordinator is a machine that is the coordinator.
type coordinator struct{ *coord.Machine }

func coordDeed(d coord.Deed) deed { return deed{out: d.Out, lasts: d.Lasts} }

func (c coordinator) take(x api.Msg) (deed, api.Errno) {
	d, e := c.Take(x)
	return coordDeed(d), e
}

func (c coordinator) tick() (deed, api.Errno) { return coordDeed(c.Tick()), api.OK }

func (c coordinator) note() ([]byte, api.Errno) { return record.EncodeCoord(c.State()) }

func (c coordinator) doubt() int { return 0 }

// host is a node with what it needs; while it is down it has no machine.
type host struct {
	node    int
	disk    *disk.Disk
	engine  *engine.Engine
	machine machine
	coord   *coord.Machine // of the coordinator, while it is up
}

// firstNote is a node's state at first, as bytes.
func firstNote(node, shards int, l []api.Owner) []byte {
	l = slices.Clone(l)
	if node == 0 {
		b, _ := record.EncodeCoord(api.Coord{Shards: shards, Epoch: 1, Owners: l})
		return b
	}
	b, _ := record.EncodeShard(api.Shard{Id: node, Epoch: 1, Owners: l})
	return b
}

// newHost makes a node that has a state, and no machine yet.
func newHost(node int, note []byte) (*host, api.Errno) {
	d, e := disk.New(sectors)
	if e != api.OK {
		return nil, e
	}
	x, e := engine.New(d)
	if e != api.OK {
		return nil, e
	}
	return &host{node: node, disk: d, engine: x}, x.Do(nil, note)
}

// start starts a node's device, and opens its engine.
func (h *host) start() error {
	h.disk.Start()
	x, e := engine.Open(h.disk)
	if e != api.OK {
		return h.fault(e)
	}
	h.engine = x
	return nil
}

// goDown lets a node go down.
func (h *host) goDown() { h.machine, h.coord = nil, nil }

// fault is an engine's error, wrapped.
func (h *host) fault(e api.Errno) error {
	switch e {
	case api.OK:
		return nil
	case api.ErrDown:
		return &fault{h.node, errDown}
	}
	return &fault{h.node, errRefused}
}

// lay gives what is to last to the engine.
func (h *host) lay(writes []api.Op) error {
	note, e := h.machine.note()
	if e != api.OK {
		return h.fault(e)
	}
	return h.fault(h.engine.Do(writes, note))
}

// assemble makes a machine of what stands in the note.
func (h *host) assemble() error {
	if h.node != 0 {
		s, e := record.DecodeShard(h.engine.Note())
		if e != api.OK {
			return h.fault(e)
		}
		m, e := part.New(s, h.engine)
		if e != api.OK {
			return h.fault(e)
		}
		h.machine = shard{m}
		return nil
	}
	c, e := record.DecodeCoord(h.engine.Note())
	if e != api.OK {
		return h.fault(e)
	}
	m, e := coord.New(c)
	if e != api.OK {
		return h.fault(e)
	}
	h.machine, h.coord = coordinator{m}, m
	return nil
}

// isDown tells whether an error is that a device is down.
func isDown(err error) bool { return errors.Is(err, errDown) }
