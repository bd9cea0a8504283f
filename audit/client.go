package audit

import (
	"slices"
	"strings"

	"bywash/api"
	"bywash/block"
	"bywash/conn"
	"bywash/field"
	"bywash/frame"
	"bywash/rule"
	"bywash/stream"
	"bywash/window"
)

const ofLength = 3 // bytes of a frame that tell how long its body is

// read takes what is held, as far as it is whole; it tells the first rule that is broken.
func (a *Auditor) read() api.Errno {
	if !a.greeted {
		n := min(len(a.held), len(conn.Preface))
		if !strings.HasPrefix(conn.Preface, a.held[:n]) {
			return api.ErrForm
		}
		if n < len(conn.Preface) {
			return api.OK
		}
		a.greeted, a.held = true, a.held[n:]
	}
	for len(a.held) >= ofLength {
		if number(a.held[:ofLength]) > a.mostFrame() {
			return api.ErrSize
		}
		f, took, e := frame.Get(a.held)
		if e != api.OK {
			return api.OK // the rest of it is still to come
		}
		a.held = a.held[took:]
		if e := a.said(f); e != api.OK {
			return e
		}
	}
	return api.OK
}

// said takes a frame.
func (a *Auditor) said(f api.Frame) api.Errno {
	if !a.begun && (f.Kind != api.Settings || f.Flags&api.Ack != 0) {
		return api.ErrOrder
	}
	a.begun = true
	if _, e := rule.Check(f); e != api.OK { // which refuses a Promise, too
		return api.ErrProto
	}
	b, whole, e := a.blocks.Take(f)
	if e != api.OK {
		return api.ErrProto
	}
	switch f.Kind {
	case api.Settings:
		return a.saidSettings(f)
	case api.Headers:
		if e := a.saidHeaders(f); e != api.OK {
			return e
		}
		fallthrough // what ends a block is held to the same rules in both
	case api.Continue:
		if whole {
			return a.saidBlock(b)
		}
	case api.Data:
		lets, ok := window.Take(a.lets, len(f.Body)) // padding counts, too
		if !ok {
			return api.ErrFlow
		}
		a.lets = lets
		fallthrough // it is a stream's, as the others
	case api.Reset:
		fallthrough
	case api.Update:
		if f.Id != 0 {
			return a.saidOnStream(f)
		}
	}
	return api.OK
}

// saidSettings takes an Ack; what the client's own let the server do is no matter here.
func (a *Auditor) saidSettings(f api.Frame) api.Errno {
	if f.Flags&api.Ack == 0 {
		return api.OK
	}
	if len(a.waiting) == 0 {
		return api.ErrProto
	}
	a.acked, a.waiting = a.waiting[0], a.waiting[1:]
	return api.OK
}

// saidHeaders takes the beginning of a block: of a new stream, or of the trailers of one that is known.
func (a *Auditor) saidHeaders(f api.Frame) api.Errno {
	x, end := a.known[f.Id], f.Flags&api.End != 0
	if x != nil && stream.Writes(x.state) && end {
		return api.OK // it has not ended till the block is whole
	}
	if x != nil || f.Id%2 == 0 || f.Id < a.last() || len(a.open) >= a.mostOpen() {
		return api.ErrProto
	}
	lets, _ := window.New(a.newest().Window)
	state, _ := stream.Sent(stream.Idle, api.Headers, end)
	x = &exchange{state: state, lets: lets}
	a.known[f.Id] = x
	a.opened = append(a.opened, f.Id)
	a.open = append(a.open, x)
	return api.OK
}

// saidBlock takes headers that are whole.
func (a *Auditor) saidBlock(b block.Block) api.Errno {
	l, e := a.unpacker.Unpack(b.Bytes)
	if e != api.OK {
		return api.ErrPack // a list that is too long is told so, too
	}
	x := a.known[b.Id]
	if len(x.fields) == 0 { // no request is without any, so that these are its
		if field.Request(l...) != api.OK {
			return api.ErrName
		}
		x.fields = l
		return api.OK
	}
	if field.Trailers(l...) != api.OK {
		return api.ErrName
	}
	x.trailers = l
	a.sentOn(x, api.Headers, b.End)
	return api.OK
}

// saidOnStream takes a frame of one stream alone that has no headers.
func (a *Auditor) saidOnStream(f api.Frame) api.Errno {
	x := a.known[f.Id]
	if x == nil {
		return api.ErrClosed
	}
	if f.Kind == api.Data {
		if !stream.Writes(x.state) {
			return api.ErrClosed
		}
		lets, ok := window.Take(x.lets, len(f.Body))
		if !ok {
			return api.ErrFlow
		}
		body, _, _ := frame.Strip(f) // which rule.Check asked already
		x.lets, x.body = lets, append(x.body, body...)
	}
	a.sentOn(x, f.Kind, f.Flags&api.End != 0)
	return api.OK
}

// sentOn brings a stream to its state behind a frame of the client's.
func (a *Auditor) sentOn(x *exchange, kind int, end bool) {
	state, _ := stream.Sent(x.state, kind, end)
	a.become(x, state)
}

// last tells the greatest number of those that were opened; 0: none was.
func (a *Auditor) last() int {
	if n := len(a.opened); n > 0 {
		return a.opened[n-1]
	}
	return 0
}

// become brings a stream to a state.
func (a *Auditor) become(x *exchange, state int) {
	x.state = state
	if state == stream.Closed {
		a.open = slices.DeleteFunc(a.open, func(o *exchange) bool { return o == x })
	}
}

// number tells the number of bytes, the greatest first.
func number(b string) int {
	n := 0
	for i := range len(b) {
		n = n<<8 | int(b[i])
	}
	return n
}
