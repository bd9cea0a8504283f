package conn

import (
	"slices"

	"bywash/api"
	"bywash/block"
	"bywash/frame"
	"bywash/prefs"
	"bywash/rule"
	"bywash/stream"
	"bywash/window"
)

const (
	ofNumber = 4            // bytes of a number in a body
	lowBits  = 1<<31 - 1    // of such a number, where its first bit does not count
	given    = 1            // ids.Kind of a number that a stream has, or had
	harmless = api.CodeNone // beside OK: the connection is not to be broken off
)

// Feed takes the server's bytes.
func (c *Conn) Feed(b string) api.Errno {
	if e := c.Dead(); e != api.OK {
		return e
	}
	c.frames.Feed(b)
	for {
		f, is, e := c.frames.Next()
		if e != api.OK {
			return c.breakOff(api.CodeSize, e)
		}
		if !is {
			return api.OK
		}
		if code, e := c.take(f); e != api.OK {
			return c.breakOff(code, e)
		}
	}
}

// take takes a frame; with an error, the connection is to be broken off by the code beside it.
func (c *Conn) take(f api.Frame) (int, api.Errno) {
	if code, e := rule.Check(f); e != api.OK {
		return code, e
	}
	if !c.begun && (f.Kind != api.Settings || f.Flags&api.Ack != 0) {
		return api.CodeProtocol, api.ErrProto
	}
	c.begun = true
	b, whole, e := c.blocks.Take(f)
	switch {
	case e == api.ErrSize:
		return api.CodeSize, e
	case e != api.OK:
		return api.CodeProtocol, e
	case whole:
		return c.takeBlock(b)
	}
	return c.takeByKind(f)
}

// takeBlock takes headers that are whole.
func (c *Conn) takeBlock(b block.Block) (int, api.Errno) {
	l, e := c.unpacker.Unpack(b.Bytes)
	if e != api.OK {
		return api.CodePack, api.ErrPack // a list that is too long is told so, too
	}
	if c.numbers.Kind(b.Id) != given {
		return api.CodeProtocol, api.ErrProto
	}
	x := c.going(b.Id)
	if x == nil {
		return harmless, api.OK
	}
	if e := c.gotBy(x, api.Headers, b.End); e != api.OK {
		return api.CodeClosed, e
	}
	if e := x.reader.Headers(b.End, l...); e != api.OK {
		c.fail(x, api.CodeProtocol, e)
	}
	return harmless, api.OK
}

// takeByKind takes a frame that ends no block.
func (c *Conn) takeByKind(f api.Frame) (int, api.Errno) {
	switch f.Kind {
	case api.Settings:
		return c.takeSettings(f)
	case api.Ping:
		c.takePing(f)
	case api.Away:
		c.away = true
		c.shutAbove(number(f.Body)&lowBits, api.ErrGone)
	case api.Update:
		if f.Id == 0 {
			return c.takeUpdateOfAll(f)
		}
		fallthrough // a stream's goes as the others that are a stream's
	case api.Reset:
		fallthrough
	case api.Data:
		if c.numbers.Kind(f.Id) != given {
			return api.CodeProtocol, api.ErrProto
		}
		return c.takeOfStream(f)
	}
	return harmless, api.OK
}

// takeOfStream takes a frame of a stream of which there was a request, be it over or not.
func (c *Conn) takeOfStream(f api.Frame) (int, api.Errno) {
	x := c.going(f.Id)
	switch {
	case f.Kind == api.Data:
		return c.takeData(x, f)
	case x == nil:
	case f.Kind == api.Reset:
		c.shut(x, x.resetBy(number(f.Body)))
	default:
		c.takeUpdate(x, f)
	}
	return harmless, api.OK
}

// takeData takes bytes of a response, or (x is nil) of one for which nobody waits any more.
func (c *Conn) takeData(x *exchange, f api.Frame) (int, api.Errno) {
	n, end := len(f.Body), f.Flags&api.End != 0 // padding counts, too
	gets, ok := window.Spend(c.gets, n)
	if !ok {
		return api.CodeFlow, api.ErrFlow
	}
	c.gets = gets
	if x == nil {
		c.credit(n)
		return harmless, api.OK
	}
	if e := c.gotBy(x, api.Data, end); e != api.OK {
		return api.CodeClosed, e
	}
	body, went, _ := frame.Strip(f)
	if code, e := x.admit(n, len(body), end); e != api.OK {
		c.fail(x, code, e)
		c.credit(n)
		return harmless, api.OK
	}
	x.waits.Put(body)
	c.creditBoth(x, went)
	return harmless, api.OK
}

// takeSettings takes what the server lets be from now on.
func (c *Conn) takeSettings(f api.Frame) (int, api.Errno) {
	if f.Flags&api.Ack != 0 {
		return harmless, api.OK
	}
	l, _ := prefs.Get(f.Body)
	lets, code, e := prefs.Apply(c.lets, l...)
	if e != api.OK {
		return code, e
	}
	if !c.shift(lets.Window - c.lets.Window) {
		return api.CodeFlow, api.ErrFlow
	}
	c.lets = lets
	if slices.ContainsFunc(l, func(s api.Pref) bool { return s.Id == api.PrefTable }) {
		c.packer.Limit(lets.Table)
	}
	c.send(api.Frame{Kind: api.Settings, Flags: api.Ack})
	c.pump()
	return harmless, api.OK
}

// takePing takes a question, or an answer.
func (c *Conn) takePing(f api.Frame) {
	if f.Flags&api.Ack != 0 {
		c.health.Got(f.Body)
		return
	}
	c.send(api.Frame{Kind: api.Ping, Flags: api.Ack, Body: f.Body})
}

// takeUpdateOfAll takes what the server lets be sent on all streams.
func (c *Conn) takeUpdateOfAll(f api.Frame) (int, api.Errno) {
	sends, code, e := grown(c.sends, number(f.Body)&lowBits)
	if e != api.OK {
		return code, e
	}
	c.sends = sends
	c.pump()
	return harmless, api.OK
}

// takeUpdate takes what the server lets be sent on a stream.
func (c *Conn) takeUpdate(x *exchange, f api.Frame) {
	sends, code, e := grown(x.sends, number(f.Body)&lowBits)
	if e != api.OK {
		c.fail(x, code, e)
		return
	}
	x.sends = sends
	c.pump()
}

// shift changes what may be sent on each open stream; false, if one's window would be beyond.
func (c *Conn) shift(by int) bool {
	for _, x := range c.open {
		sends, ok := window.Shift(x.sends, by)
		if !ok {
			return false
		}
		x.sends = sends
	}
	return true
}

// going tells a stream that is known, and not over; else nil.
func (c *Conn) going(id int) *exchange {
	x := c.known[id]
	if x == nil || x.over() {
		return nil
	}
	return x
}

// gotBy brings a stream to its state behind a frame that came.
func (c *Conn) gotBy(x *exchange, kind int, end bool) api.Errno {
	state, e := stream.Got(x.state, kind, end)
	if e == api.OK {
		c.become(x, state)
	}
	return e
}

// admit holds Data of n bytes, of which so many are the body's, against what may come; with an error, the stream fails by the code beside it.
func (x *exchange) admit(n, body int, end bool) (int, api.Errno) {
	gets, ok := window.Spend(x.gets, n)
	if !ok {
		return api.CodeFlow, api.ErrFlow
	}
	x.gets = gets
	return api.CodeProtocol, x.reader.Data(body, end)
}

// resetBy tells the error of a stream that the server ends by a code.
func (x *exchange) resetBy(code int) api.Errno {
	e := rule.Error(code)
	if e == api.OK && !x.reader.Done() {
		return api.ErrReset
	}
	return e
}

// grown tells a window by which so much more may be sent, or the code and the error of what may not be.
func grown(w window.Window, n int) (window.Window, int, api.Errno) {
	if n == 0 {
		return w, api.CodeProtocol, api.ErrProto
	}
	more, ok := window.Grow(w, n)
	if !ok {
		return w, api.CodeFlow, api.ErrFlow
	}
	return more, api.CodeNone, api.OK
}

// number tells the number at the beginning of a body, the greatest byte first.
func number(b string) int {
	n := 0
	for i := range ofNumber {
		n = n<<8 | int(b[i])
	}
	return n
}
