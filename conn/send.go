package conn

import (
	"slices"

	"bywash/api"
	"bywash/block"
	"bywash/frame"
	"bywash/pump"
	"bywash/stream"
	"bywash/window"
)

// say puts bytes behind what waits for Take, unless the connection is broken.
func (c *Conn) say(b string) {
	if c.dead != api.OK {
		return
	}
	c.out.Put(b)
	c.sent += len(b)
}

// send says frames.
func (c *Conn) send(l ...api.Frame) {
	for _, f := range l {
		b, _ := frame.Put(f)
		c.say(b)
	}
}

// sendBlock sends headers of a stream.
func (c *Conn) sendBlock(x *exchange, end bool, l ...api.Field) {
	cut, _ := block.Cut(x.id, c.packer.Pack(l...), end, c.lets.Frame)
	c.send(cut...)
	c.sentBy(x, api.Headers, end)
}

// sendData sends a slice of a stream's body.
func (c *Conn) sendData(x *exchange, s pump.Slice) {
	f := api.Frame{Kind: api.Data, Id: x.id, Body: x.body[:s.N]}
	if s.End {
		f.Flags = api.End
	}
	c.send(f)
	x.body = x.body[s.N:]
	c.sends, _ = window.Take(c.sends, s.N) // the plan has no more than the windows let
	x.sends, _ = window.Take(x.sends, s.N)
	c.sentBy(x, api.Data, s.End)
}

// sendTrailers sends a stream's trailers.
func (c *Conn) sendTrailers(x *exchange) {
	l := x.trailers
	x.trailers = nil
	c.sendBlock(x, true, l...)
}

// sendUpdate lets the server send so much more on a stream (0: on all); nothing is no frame.
func (c *Conn) sendUpdate(id, told int) {
	if told > 0 {
		c.send(api.Frame{Kind: api.Update, Id: id, Body: bytesOf(told)})
	}
}

// pump sends what the windows let go of all bodies, and each stream's trailers as soon as its body is sent.
func (c *Conn) pump() {
	var parts []pump.Part
	for _, x := range c.open {
		if stream.Writes(x.state) {
			parts = append(parts, pump.Part{Id: x.id, Left: x.sends.Left, Pending: len(x.body), End: len(x.trailers) == 0})
		}
	}
	plan := pump.Plan(c.sends.Left, c.lets.Frame, parts...)
	for _, p := range parts {
		x := c.known[p.Id]
		for ; len(plan) > 0 && plan[0].Id == p.Id; plan = plan[1:] {
			c.sendData(x, plan[0])
		}
		if x.body == "" && len(x.trailers) > 0 {
			c.sendTrailers(x)
		}
	}
}

// credit lets the server send so much more on all streams, once it is worth a frame.
func (c *Conn) credit(n int) {
	var told int
	c.gets, told = window.Credit(c.gets, n)
	c.sendUpdate(0, told)
}

// creditBoth credits a stream, and then the connection.
func (c *Conn) creditBoth(x *exchange, n int) {
	var told int
	x.gets, told = window.Credit(x.gets, n)
	if stream.Reads(x.state) {
		c.sendUpdate(x.id, told)
	}
	c.credit(n)
}

// sentBy brings a stream to its state behind a frame that was sent.
func (c *Conn) sentBy(x *exchange, kind int, end bool) {
	state, _ := stream.Sent(x.state, kind, end)
	c.become(x, state)
}

// become brings a stream to a state; one that is Closed has nothing to send any more.
func (c *Conn) become(x *exchange, state int) {
	x.state = state
	if x.over() {
		x.body, x.trailers = "", nil
		c.open = slices.DeleteFunc(c.open, func(o *exchange) bool { return o.id == x.id })
	}
}

// shut brings a stream to its end, with an error.
func (c *Conn) shut(x *exchange, e api.Errno) {
	c.become(x, stream.Closed)
	x.err = e
}

// shutAbove shuts all open streams behind a number.
func (c *Conn) shutAbove(last int, e api.Errno) {
	for _, x := range slices.Clone(c.open) { // shut takes them out of it
		if x.id > last {
			c.shut(x, e)
		}
	}
}

// fail breaks a stream off.
func (c *Conn) fail(x *exchange, code int, e api.Errno) {
	c.send(api.Frame{Kind: api.Reset, Id: x.id, Body: bytesOf(code)})
	c.shut(x, e)
	c.credit(x.waits.Drop())
}

// breakOff breaks the connection off.
func (c *Conn) breakOff(code int, e api.Errno) api.Errno {
	c.send(api.Frame{Kind: api.Away, Body: bytesOf(0) + bytesOf(code)})
	c.dead = e
	c.shutAbove(0, api.ErrDead)
	c.frames = nil // nothing of what is held counts any more
	return e
}

// bytesOf tells a number's four bytes, the greatest first.
func bytesOf(n int) string {
	return string([]byte{byte(n >> 24), byte(n >> 16), byte(n >> 8), byte(n)})
}
