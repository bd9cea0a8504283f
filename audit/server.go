package audit

import (
	"bywash/api"
	"bywash/prefs"
	"bywash/rule"
	"bywash/stream"
	"bywash/window"
)

const lowBits = 1<<31 - 1 // of what an Update says, whose first bit does not count

// got takes a frame of the server's; what is against the rules does nothing.
func (a *Auditor) got(f api.Frame) {
	if _, e := rule.Check(f); e != api.OK {
		return
	}
	switch f.Kind {
	case api.Settings:
		if f.Flags&api.Ack == 0 {
			a.gotSettings(f)
		}
	case api.Update:
		if f.Id == 0 {
			a.lets = grown(a.lets, f)
			return
		}
		fallthrough // a stream's goes as the others that are a stream's
	case api.Reset:
		fallthrough
	case api.Headers:
		fallthrough
	case api.Data:
		a.gotOnStream(f)
	}
}

// gotSettings takes what the server lets be: windows are by it at once, the rest from its Ack on at the latest.
func (a *Auditor) gotSettings(f api.Frame) {
	l, _ := prefs.Get(f.Body) // rule.Check looked at its length
	was := a.newest()
	p, _, e := prefs.Apply(was, l...)
	if e != api.OK {
		return
	}
	for _, x := range a.open {
		x.lets, _ = window.Shift(x.lets, p.Window-was.Window) // one that would be beyond stays
	}
	a.waiting = append(a.waiting, p)
}

// gotOnStream takes a frame of one stream alone.
func (a *Auditor) gotOnStream(f api.Frame) {
	x := a.known[f.Id]
	if x == nil {
		return
	}
	if f.Kind == api.Update {
		x.lets = grown(x.lets, f)
	}
	state, _ := stream.Got(x.state, f.Kind, f.Flags&api.End != 0)
	a.become(x, state)
}

// newest tells what the server said last, be it acked or not.
func (a *Auditor) newest() prefs.Prefs {
	if n := len(a.waiting); n > 0 {
		return a.waiting[n-1]
	}
	return a.acked
}

// mostFrame tells how long a frame's body may be.
func (a *Auditor) mostFrame() int {
	most := a.acked.Frame
	for _, p := range a.waiting {
		most = max(most, p.Frame)
	}
	return most
}

// mostOpen tells how many streams may be open.
func (a *Auditor) mostOpen() int {
	most := a.acked.Many
	for _, p := range a.waiting {
		most = max(most, p.Many)
	}
	return most
}

// grown tells a window behind an Update; one that would be beyond stays.
func grown(w window.Window, f api.Frame) window.Window {
	w, _ = window.Grow(w, number(f.Body)&lowBits)
	return w
}
