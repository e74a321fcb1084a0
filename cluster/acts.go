package cluster

import (
	"slices"

	"sumpter/api"
	"sumpter/coord"
	"sumpter/net"
	"sumpter/op"
	"sumpter/record"
	"sumpter/wire"
)

// found takes notice of the coordinator's state as it stands in its engine's note: of the decisions that are new.
func (c *Cluster) found(h *host) {
	if h.node != 0 {
		return
	}
	s, e := record.DecodeCoord(h.engine.Note())
	if e != api.OK {
		return
	}
	for _, d := range s.Decided {
		if !slices.ContainsFunc(c.laid.Decided, func(o api.Decision) bool { return o.Txn == d.Txn }) {
			c.seen = append(c.seen, api.Seen{Kind: api.Decided, Client: d.Client, Req: d.Req})
		}
	}
	c.laid = s
}

// makeMachine makes a node's machine, or lets it go down.
func (c *Cluster) makeMachine(h *host) error {
	err := h.assemble()
	if err == nil {
		err = h.lay(nil)
	}
	if err != nil {
		h.goDown()
		return err
	}
	c.found(h)
	return nil
}

// does lets a node do a deed.
func (c *Cluster) does(h *host, d deed) {
	if d.lasts {
		if err := h.lay(d.writes); err != nil {
			h.goDown()
			if !isDown(err) {
				c.makeMachine(h)
			}
			return
		}
		c.found(h)
	}
	for _, x := range d.out {
		c.send(x)
	}
}

// send sends a message; where the net has no room it is lost.
func (c *Cluster) send(x api.Msg) {
	if b, e := wire.Encode(x); e == api.OK {
		c.net.Send(x.From, x.To, b)
	}
}

// Do does an act.
func (c *Cluster) Do(a api.Act) api.Errno {
	switch a.Kind {
	case api.Begin:
		return c.begin(a.A, a.Ops)
	case api.Resend:
		return c.resend(a.A)
	case api.Deliver:
		return c.deliver(a.B)
	case api.Drop:
		return c.net.Drop(a.B)
	case api.Double:
		return c.net.Double(a.B)
	case api.Spoil:
		return c.net.Spoil(a.B, []byte(a.Mask))
	case api.Tick:
		return c.tick(a.A)
	case api.Crash:
		return c.crash(a.A, a.Mask)
	case api.Start:
		return c.start(a.A)
	case api.Fuse:
		return c.fuse(a.A, a.B)
	case api.Split, api.Move:
		return c.rearrange(a)
	case api.Round:
		c.round()
		return api.OK
	}
	return api.ErrArg
}

// client is one that asks, if there is such a one.
func (c *Cluster) client(n int) (*client, bool) {
	if n < 1 || n > api.MaxClients {
		return nil, false
	}
	return &c.clients[n], true
}

func (c *Cluster) begin(n int, ops []api.Op) api.Errno {
	x, ok := c.client(n)
	if !ok {
		return api.ErrArg
	}
	if e := op.Check(ops); e != api.OK {
		return e
	}
	if x.waits {
		return api.ErrState
	}
	x.req++
	x.waits, x.boot, x.ops = true, x.knows, slices.Clone(ops)
	c.seen = append(c.seen, api.Seen{Kind: api.Asked, Client: n, Req: x.req, Ops: slices.Clone(ops)})
	return c.resend(n)
}

func (c *Cluster) resend(n int) api.Errno {
	x, ok := c.client(n)
	if !ok {
		return api.ErrArg
	}
	if !x.waits {
		return api.ErrState
	}
	c.send(api.Msg{Kind: api.Request, From: clientNode + n, Req: x.req, Boot: x.boot, Ops: x.ops})
	return api.OK
}

func (c *Cluster) deliver(i int) api.Errno {
	l, e := c.net.Take(i)
	if e != api.OK {
		return e
	}
	x, e := wire.Decode(l.Bytes)
	if e != api.OK || x.To != l.To {
		return api.OK
	}
	if n, ok := c.client(l.To - clientNode); ok {
		c.hear(n, x)
		return api.OK
	}
	c.hand(l, x)
	return api.OK
}

// hand hands a message to a node that is up.
func (c *Cluster) hand(l net.Letter, x api.Msg) {
	h, e := c.upHost(l.To)
	if e != api.OK {
		return
	}
	d, e := h.machine.take(x)
	switch e {
	case api.OK:
		c.does(h, d)
	case api.ErrMsg:
	default:
		h.goDown()
	}
}

// hear lets a client hear a message.
func (c *Cluster) hear(n *client, x api.Msg) {
	if x.Kind != api.Answer {
		return
	}
	n.knows = max(n.knows, x.Boot)
	if !n.waits || n.req != x.Req {
		return
	}
	n.waits, n.ops = false, nil
	c.seen = append(c.seen, api.Seen{Kind: api.Told, Client: x.To - clientNode, Req: x.Req, Code: x.Code, Results: cloneResults(x.Results)})
}

func (c *Cluster) tick(node int) api.Errno {
	h, e := c.upHost(node)
	if e != api.OK {
		return e
	}
	d, e := h.machine.tick()
	if e != api.OK {
		h.goDown()
		return api.OK
	}
	c.does(h, d)
	return api.OK
}

func (c *Cluster) crash(node int, mask string) api.Errno {
	h, ok := c.host(node)
	if !ok {
		return api.ErrArg
	}
	h.disk.Crash(mask)
	h.goDown()
	return api.OK
}

func (c *Cluster) start(node int) api.Errno {
	h, ok := c.host(node)
	if !ok {
		return api.ErrArg
	}
	if h.machine != nil {
		return api.ErrState
	}
	if err := h.start(); err != nil {
		return api.ErrDown
	}
	c.found(h)
	if err := c.makeMachine(h); err != nil {
		return api.ErrDown
	}
	return api.OK
}

func (c *Cluster) fuse(node, acts int) api.Errno {
	h, e := c.upHost(node)
	if e != api.OK {
		return e
	}
	h.disk.Fuse(acts)
	return api.OK
}

// rearrange splits a range, or moves one.
func (c *Cluster) rearrange(a api.Act) api.Errno {
	h, e := c.upHost(0)
	if e != api.OK {
		return e
	}
	var d coord.Deed
	if a.Kind == api.Split {
		d, e = h.coord.Split(a.Key)
	} else {
		d, e = h.coord.Move(a.Key, a.B)
	}
	if e != api.OK {
		return e
	}
	c.does(h, coordDeed(d))
	return api.OK
}

func (c *Cluster) round() {
	for node := range c.hosts {
		c.tick(node)
	}
	for n := 1; n <= api.MaxClients; n++ {
		c.resend(n)
	}
	for i := 0; i < mostDelivered && c.net.Len() > 0; i++ {
		c.deliver(0)
	}
}
