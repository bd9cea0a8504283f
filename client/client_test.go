package client

import (
	"math"
	"slices"
	"testing"

	"bywash/api"
	"bywash/audit"
)

func TestExampleP2401(t *testing.T) {
	s := made(t, usual)
	if id, e := s.c.Do(get()); id != 1 || e != api.OK {
		t.Fatalf("Do: %d, %d", id, e)
	}
	s.dials(true)
	if k := s.c.Dialed(true); k != 1 {
		t.Fatalf("Dialed(true): %d", k)
	}
	s.c.Step()
	s.is(1, 2, 1, 1, 1, "")
}

// turned tells the usual Config with one part turned: such as may not be, or such as may.
func turned(right bool) []Config {
	var l []Config
	turn := func(part func(c *Config) *int, wrong, at []int) {
		if right {
			wrong = at
		}
		for _, n := range wrong {
			c := usual
			*part(&c) = n
			l = append(l, c)
		}
	}
	turn(func(c *Config) *int { return &c.Conn.Window }, []int{0, -1, 65536, 1<<32 + 1, math.MaxInt, math.MinInt}, []int{1, 2, 65534, 65535})
	turn(func(c *Config) *int { return &c.Conn.First }, []int{0, 2, -1, api.MaxIds - 1, api.MaxIds + 1, api.MaxIds + 2, math.MaxInt, math.MinInt, math.MinInt + 1}, []int{1, 3, api.MaxIds - 2, api.MaxIds})
	turn(func(c *Config) *int { return &c.Conn.Every }, []int{0, -1, math.MinInt}, []int{1, 2, math.MaxInt})
	turn(func(c *Config) *int { return &c.Conn.Wait }, []int{0, -1, math.MinInt}, []int{1, 2, math.MaxInt})
	turn(func(c *Config) *int { return &c.Conns }, []int{0, -1, api.MaxConns + 1, api.MaxConns + 2, 1<<32 + 1, math.MaxInt, math.MinInt}, []int{1, 2, api.MaxConns})
	turn(func(c *Config) *int { return &c.Tries }, []int{0, -1, api.MaxTries + 1, api.MaxTries + 2, 1<<32 + 1, math.MaxInt, math.MinInt}, []int{1, 2, 3, api.MaxTries})
	turn(func(c *Config) *int { return &c.Time }, []int{0, -1, -2, math.MinInt, math.MinInt + 1}, []int{1, 2, math.MaxInt - 1, math.MaxInt})
	return l
}

func TestNewP2401(t *testing.T) {
	for _, c := range append(turned(false), Config{}) {
		if New(c) != nil {
			t.Errorf("New(%v): not nil", c)
		}
	}
	for _, c := range append(turned(true), usual) {
		s := with(t, c, 1, get())
		s.is(1, 2, 1, c.Conn.First, 1, "")
	}
}

// Each part of the Config is where it belongs.
func TestNewPartsP2401(t *testing.T) {
	for conns := 1; conns <= api.MaxConns; conns++ {
		c := usual
		c.Conns = conns
		s := with(t, c, 0, get())
		for k := 1; k <= conns; k++ {
			s.dials(true)
			s.c.Dialed(true)
			s.feeds(k, api.OK, settings(pf(api.PrefMany, 0)))
		}
		s.dials(false)
	}
	for tries := 1; tries <= api.MaxTries; tries++ {
		c := usual
		c.Tries = tries
		s := with(t, c, 0, get())
		for n := range tries {
			s.is(1, 1, 0, 0, n, "")
			s.misses()
		}
		s.is(1, 3, 0, 0, tries, map[bool]string{true: "call: dial", false: "again: call: dial"}[tries == 1])
	}
	for _, time := range []int{1, 2, 7, 100} {
		c := usual
		c.Time = time
		s := with(t, c, 0, get())
		for range time - 1 {
			s.c.Tick()
			s.is(1, 1, 0, 0, 0, "")
		}
		s.c.Tick()
		s.is(1, 3, 0, 0, 0, "late")
	}
}

// A client is as its Config was; another one of it is another one.
func TestApartP2401(t *testing.T) {
	c := usual
	s := made(t, c)
	c.Tries, c.Time, c.Conns, c.Conn.First = 1, 1, 1, 5
	other := with(t, c, 1, get())
	other.is(1, 2, 1, 5, 1, "")
	s.unknown(1)
	s.conns()
	s.does(get())
	s.misses()
	s.is(1, 1, 0, 0, 1, "")
	s.c.Tick()
	s.is(1, 1, 0, 0, 1, "")
	other.is(1, 2, 1, 5, 1, "")
	other.c.Tick()
	other.is(1, 3, 1, 5, 1, "late")
}

// wrongs tells requests that are not right.
func wrongs() []api.Request {
	turn := func(turn func(r *api.Request)) api.Request {
		r := post("abc")
		turn(&r)
		return r
	}
	return []api.Request{
		{},
		turn(func(r *api.Request) { r.Method = "" }),
		turn(func(r *api.Request) { r.Scheme = "" }),
		turn(func(r *api.Request) { r.Authority = "" }),
		turn(func(r *api.Request) { r.Path = "" }),
		turn(func(r *api.Request) { r.Path = "p" }),
		turn(func(r *api.Request) { r.Body = of(api.MaxBody+1, "b") }),
		turn(func(r *api.Request) { r.Fields = []api.Field{fl("A", "b")} }),
		turn(func(r *api.Request) { r.Fields = []api.Field{fl("a", " b")} }),
		turn(func(r *api.Request) { r.Fields = []api.Field{fl(":path", "/")} }),
		turn(func(r *api.Request) { r.Fields = []api.Field{fl("connection", "b")} }),
		turn(func(r *api.Request) { r.Fields = []api.Field{fl("content-length", "4")} }),
		turn(func(r *api.Request) { r.Fields = slices.Repeat([]api.Field{fl("a", of(200, "b"))}, 3) }),
		turn(func(r *api.Request) { r.Trailers = []api.Field{fl(":path", "/")} }),
		turn(func(r *api.Request) { r.Trailers = slices.Repeat([]api.Field{fl("a", of(200, "b"))}, 3) }),
	}
}

func TestDoP2401(t *testing.T) {
	s := made(t, usual)
	n := 0
	for full := range 2 {
		for _, r := range wrongs() {
			s.refuses(r, api.ErrArg)
		}
		for range api.MaxCalls * (1 - full) {
			n++
			if id := s.does(get()); id != n {
				t.Fatalf("Do: %d, not %d", id, n)
			}
			s.refuses(api.Request{}, api.ErrArg) // takes no number
		}
	}
	s.refuses(get(), api.ErrBusy)
	s.refuses(post(of(api.MaxBody, "b")), api.ErrBusy)
	s.waiting(1, 2, 3, 4, 5, 6, 7, 8, 9, 10, 11, 12)
	s.comes()
	s.c.Step() // those that are under way count, too
	s.waiting(7, 8, 9, 10, 11, 12)
	s.refuses(get(), api.ErrBusy)
	s.refuses(wrongs()[3], api.ErrArg)
	s.unknown(0, -1, 13, 14, math.MaxInt, math.MinInt, 1<<32+1)
}

// A call that is over, by whichever way, leaves room for just one.
func TestDoRoomP2401(t *testing.T) {
	full := func(c Config) *side {
		s := with(t, c, 1, append(gots(5), post(""))...)
		s.hears(1)
		for range 6 {
			s.does(get())
		}
		s.refuses(get(), api.ErrBusy)
		return s
	}
	last := usual
	last.Tries = 1
	late := usual
	late.Time = 2
	for _, x := range []struct {
		what string
		c    Config
		end  func(s *side)
		room int
	}{
		{"an answer", usual, func(s *side) { s.answers(1, 3, true, st("200")); s.c.Step(); s.is(2, 3, 1, 3, 1, "") }, 1},
		{"an answer that Step did not see", usual, func(s *side) { s.answers(1, 3, true, st("200")) }, 0},
		{"Cancel of one under way", usual, func(s *side) { s.cancels(2, api.OK) }, 1},
		{"Cancel of one that waits", usual, func(s *side) { s.cancels(9, api.OK) }, 1},
		{"Cancel of several", usual, func(s *side) { s.cancels(9, api.OK); s.cancels(1, api.OK); s.cancels(12, api.OK) }, 3},
		{"refused, and waits again", usual, func(s *side) { s.feeds(1, api.OK, reset(3, api.CodeRefused)); s.c.Step() }, 0},
		{"refused at the last try", last, func(s *side) {
			s.feeds(1, api.OK, reset(3, api.CodeRefused))
			s.c.Step()
			s.is(2, 3, 1, 3, 1, "call: refused")
		}, 1},
		{"no connection at the last try", last, func(s *side) { s.misses(); s.is(7, 3, 0, 0, 1, "call: dial") }, 1},
		{"an error that is the last word", usual, func(s *side) { s.feeds(1, api.OK, reset(3, api.CodeCancel)); s.c.Step() }, 1},
		{"written, and not safe", usual, func(s *side) {
			s.feeds(1, api.OK, reset(11, api.CodeFlow))
			s.c.Step()
			s.is(6, 3, 1, 11, 1, "call: reset")
		}, 1},
		{"nearly late", late, func(s *side) { s.c.Tick() }, 0},
		{"late", late, func(s *side) { s.c.Tick(); s.c.Tick() }, 12},
		{"over, and dropped", usual, func(s *side) { s.cancels(9, api.OK); s.drops(9, true) }, 1},
		{"over, and dropped ahead of another", usual, func(s *side) { s.cancels(9, api.OK); s.drops(9, true); s.cancels(8, api.OK) }, 2},
	} {
		s := full(x.c)
		x.end(s)
		for n := range x.room {
			if id := s.does(get()); id != 13+n {
				t.Errorf("%s: Do: %d, not %d", x.what, id, 13+n)
			}
		}
		if id, e := s.c.Do(get()); id != 0 || e != api.ErrBusy {
			t.Errorf("%s: Do: %d, %d, though there is no room", x.what, id, e)
		}
		s.refuses(api.Request{}, api.ErrArg)
	}
}

// asked tells what a client asked on a connection, as audit hears it.
func asked(t *testing.T, b string) *audit.Auditor {
	t.Helper()
	a := audit.New()
	a.Server(settings()) // which the client got
	if e := a.Client(b); e != api.OK {
		t.Fatalf("audit tells %d", e)
	}
	return a
}

// asks holds what was asked on a stream.
func (s *side) asks(a *audit.Auditor, id int, want api.Request) {
	s.t.Helper()
	l, body, trailers, is := a.Asked(id)
	fields := append([]api.Field{fl(":method", want.Method), fl(":scheme", want.Scheme), fl(":authority", want.Authority), fl(":path", want.Path)}, want.Fields...)
	if !is || !slices.Equal(l, fields) || body != want.Body || !slices.Equal(trailers, want.Trailers) {
		s.t.Fatalf("stream %d asks %v, %q, %v, not %v", id, l, body, trailers, want)
	}
}

// What becomes of a request behind Do is its caller's own, at the second try, too.
func TestDoKeepsP2401(t *testing.T) {
	want := request("PUT", "body")
	want.Fields = []api.Field{fl("a", "b"), fl("c", "d")}
	want.Trailers = []api.Field{fl("e", "f"), fl("g", "h")}
	r := want
	r.Fields, r.Trailers = make([]api.Field, 2, 9), make([]api.Field, 2, 9)
	copy(r.Fields, want.Fields)
	copy(r.Trailers, want.Trailers)
	s := made(t, usual)
	spoil := func() {
		for i := range 2 {
			r.Fields[i], r.Trailers[i] = fl("spoiled", "x"), fl("spoiled", "y")
		}
		r.Fields, r.Trailers = append(r.Fields, fl("more", "")), append(r.Trailers, fl("more", ""))
		r.Method, r.Body = "POST", "another"
	}
	s.does(r)
	if !slices.Equal(r.Fields, want.Fields) || !slices.Equal(r.Trailers, want.Trailers) {
		t.Fatalf("Do turned %v", r)
	}
	spoil()
	s.dials(true)
	s.c.Dialed(true)
	s.feeds(1, api.OK, settings())
	s.c.Step()
	said := s.c.Take(1, math.MaxInt)
	s.asks(asked(t, said), 1, want)
	spoil()
	s.feeds(1, api.OK, reset(1, api.CodeFlow)) // a PUT may be sent again, a POST might not
	s.c.Step()
	s.is(1, 2, 1, 3, 2, "")
	s.asks(asked(t, said+s.c.Take(1, math.MaxInt)), 3, want)
	s.feeds(1, api.ErrProto, promise())
	s.c.Step()
	s.comes()
	s.c.Step()
	s.is(1, 2, 2, 1, 3, "")
}

// One that is turned behind Do, ahead of its first sending, with nothing of its own.
func TestDoPlainP2401(t *testing.T) {
	s := made(t, usual)
	r := get()
	r.Fields, r.Trailers = []api.Field{}, []api.Field{}
	s.does(r)
	s.does(get())
	s.dials(true)
	s.c.Dialed(true)
	s.feeds(1, api.OK, settings())
	s.c.Step()
	a := asked(t, s.c.Take(1, math.MaxInt))
	s.asks(a, 1, get())
	s.asks(a, 3, get())
}
