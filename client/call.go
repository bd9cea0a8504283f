package client

import (
	"errors"
	"math"
	"slices"

	"bywash/api"
	"bywash/conn"
	"bywash/fail"
	"bywash/retry"
)

// Phases of a call.
const (
	waits = 1 + iota
	goes
	over
)

// errOff is below the end of a call that its caller, or its own time, broke off.
var errOff = errors.New("broken off")

// call is a request, and what became of it.
type call struct {
	number  int
	phase   int
	request api.Request // till it is over
	tries   int
	age     int   // ticks since its Do
	err     error // by which it is over
	line    *line // nil: it has no stream
	stream  int
	ahead   int // bytes that had been sent on its connection ahead of its Open
}

// line is a connection that calls keep, as long as they are known: the pool may let it go sooner.
type line struct {
	number int
	conn   *conn.Conn
	calls  int // that keep it
}

// look lets a call under way go on, if its stream is over.
func (c *Client) look(x *call) {
	if x.phase != goes {
		return
	}
	i, _ := x.line.conn.Info(x.stream)
	switch {
	case !i.Over:
	case i.Done:
		c.end(x, nil)
	case i.Err != api.OK:
		c.settle(x, fail.New(i.Err))
	}
}

// start gives streams to those that wait, as far as connections let it.
func (c *Client) start() {
	for {
		k, can := c.pool.Pick()
		if !can {
			return
		}
		id, is := c.queue.First()
		if !is {
			return
		}
		c.open(c.known[id], k)
	}
}

// open sends a call's request, as a stream of a connection.
func (c *Client) open(x *call, k int) {
	there := c.pool.At(k)
	ahead, _ := there.Count()
	id, e := there.Open(x.request)
	x.tries++
	if e != api.OK {
		c.settle(x, fail.New(e))
		return
	}
	x.phase, x.stream, x.ahead = goes, id, ahead
	x.line = c.keep(k, there)
}

// miss tells the first that waits that no connection came of dialling.
func (c *Client) miss() {
	id, is := c.queue.First()
	if !is {
		return
	}
	x := c.known[id]
	x.tries++
	c.settle(x, fail.New(api.ErrDial))
}

// breakOff ends a call that is not over, whatever its server does.
func (c *Client) breakOff(x *call, code api.Errno) {
	switch x.phase {
	case waits:
		c.queue.Cut(x.number)
	case goes:
		if x.line.conn.Cancel(x.stream, code) == api.ErrClosed {
			x.line.conn.Read(x.stream, math.MaxInt) // nobody else will, so that it is credited now
		}
	}
	c.settle(x, fail.Join("off", code, errOff))
}

// settle lets a call that failed wait again, or be over.
func (c *Client) settle(x *call, err error) {
	code := fail.Code(err)
	switch {
	case errors.Is(err, errOff):
		c.end(x, fail.New(code))
	case retry.Again(x.request.Method, code, x.written(), x.tries, c.tries):
		c.leave(x)
		x.phase = waits
		c.queue.Back(x.number)
	default:
		c.end(x, retry.Err(code, x.tries))
	}
}

// end lets a call be over; its stream stays known.
func (c *Client) end(x *call, err error) {
	x.phase, x.err = over, err
	x.request = api.Request{}
	c.going = slices.DeleteFunc(c.going, func(o *call) bool { return o == x })
}

// leave forgets a call's stream, if it has one.
func (c *Client) leave(x *call) {
	l := x.line
	if l == nil {
		return
	}
	l.conn.Forget(x.stream)
	l.calls--
	if l.calls == 0 {
		delete(c.lines, l.number)
	}
	x.line, x.stream = nil, 0
}

// keep tells a connection that one call more keeps.
func (c *Client) keep(k int, there *conn.Conn) *line {
	l := c.lines[k]
	if l == nil {
		l = &line{number: k, conn: there}
		c.lines[k] = l
	}
	l.calls++
	return l
}

// at tells a connection that is there, or that a call keeps; else nil.
func (c *Client) at(k int) *conn.Conn {
	if there := c.pool.At(k); there != nil {
		return there
	}
	if l := c.lines[k]; l != nil {
		return l.conn
	}
	return nil
}

// written tells whether its server may have got any of it.
func (x *call) written() bool {
	if x.line == nil {
		return false
	}
	_, taken := x.line.conn.Count()
	return taken > x.ahead
}

// anew tells an error like one that is kept, for its caller to do with as he likes.
func anew(err error) error {
	var f *fail.Failure
	if !errors.As(err, &f) {
		return nil
	}
	return fail.Join(f.Op, f.Code, anew(f.Err))
}
