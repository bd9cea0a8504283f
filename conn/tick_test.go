package conn

import (
	"math"
	"strings"
	"testing"

	"bywash/api"
)

func TestTickP1904(t *testing.T) {
	s := met(t, Config{100, 1, 3, 2})
	quiet := func(n int) {
		t.Helper()
		for range n {
			s.ticks(api.OK)
			s.said()
		}
	}
	asked := func(k byte) {
		t.Helper()
		s.ticks(api.OK)
		s.said(saysPing(k))
	}
	answer := func(k byte) { t.Helper(); s.feeds(api.OK, echo(of(7, "\x00")+string([]byte{k}))) }
	quiet(2)
	asked(1)
	answer(1)
	quiet(2)
	asked(2)
	quiet(1)
	answer(1)                                   // an answer to another one
	s.feeds(api.OK, asks(of(7, "\x00")+"\x02")) // a question is none
	s.said("ping 1 0 \"" + of(7, "\\x00") + "\\x02\"")
	answer(2)
	quiet(2)
	asked(3)
	answer(3)
	answer(3)
	quiet(2)
	asked(4)
	quiet(1)
	s.opens(get("/"), 1)
	s.says()
	s.ticks(api.ErrLate)
	s.said(saysAway(api.CodeNone))
	s.stands(0, false, false, api.ErrLate)
	s.ends(1, api.ErrDead)
	for range 9 {
		s.ticks(api.ErrLate)
		s.said()
	}
	s.feeds(api.ErrLate, echo(of(7, "\x00")+"\x04"))
	s.refuses(get("/"), api.ErrLate)
	s.cancels(1, api.OK, api.ErrLate)
}

func TestTickOfManyP1904(t *testing.T) {
	s := met(t, Config{100, 1, 1, 1})
	for k := range 300 {
		s.ticks(api.OK)
		body := of(6, "\x00") + string([]byte{byte((k + 1) >> 8), byte(k + 1)})
		if got := s.c.Take(99); got != bytesOfFrames(asks(body)) {
			t.Fatalf("the ping %d: %q", k+1, got)
		}
		s.feeds(api.OK, echo(body))
	}
	s.ticks(api.OK)
	s.ticks(api.ErrLate)
	s = met(t, Config{100, 1, math.MaxInt, 1})
	for range 1000 {
		s.ticks(api.OK)
	}
	s.said()
}

// Ticks go on whatever the server says; only an answer holds them.
func TestTickBesideOtherFramesP1904(t *testing.T) {
	s := met(t, Config{100, 1, 1, 3})
	s.ticks(api.OK)
	s.ticks(api.OK)
	s.feeds(api.OK, settings(), update(0, 1), asks("12345678"))
	s.ticks(api.OK)
	s.ticks(api.ErrLate)
	// A ping goes, be the server gone or not.
	s = met(t, Config{100, 1, 2, 3})
	s.feeds(api.OK, away(0, 0, ""))
	s.ticks(api.OK)
	s.ticks(api.OK)
	s.said(saysPing(1))
}

func TestTickOnABrokenConnectionP1904(t *testing.T) {
	s := met(t, Config{100, 1, 1, 1})
	s.feeds(api.ErrProto, update(0, 0))
	s.says()
	for range 5 {
		s.ticks(api.ErrProto)
	}
	s.said()
}

func TestTakeP1904(t *testing.T) {
	s := begun(t, plainConfig)
	for _, n := range []int{0, -1, -1000, math.MinInt} {
		if b := s.c.Take(n); b != "" {
			t.Errorf("Take(%d) told %q", n, b)
		}
		s.counts(51, 0)
	}
	whole := New(plainConfig).Take(math.MaxInt)
	if len(whole) != 51 {
		t.Errorf("all are %q", whole)
	}
	got := s.c.Take(1)
	s.counts(51, 1)
	got += s.c.Take(23)
	s.counts(51, 24)
	got += s.c.Take(27)
	s.counts(51, 51)
	if got != whole {
		t.Errorf("in pieces %q, not %q", got, whole)
	}
	for _, n := range []int{1, 99, 0, -1, math.MaxInt} {
		if b := s.c.Take(n); b != "" {
			t.Errorf("behind all: Take(%d) told %q", n, b)
		}
	}
	s.counts(51, 51)
	s = begun(t, plainConfig)
	if b := s.c.Take(51); b != whole {
		t.Errorf("Take of just all told %q", b)
	}
	s = begun(t, plainConfig)
	if b := s.c.Take(52); b != whole {
		t.Errorf("Take of more told %q", b)
	}
}

// Byte by byte it is the same, whatever is sent between.
func TestTakeInPiecesP1904(t *testing.T) {
	play := func(after func(c *Conn)) *Conn {
		c := New(Config{100, 1, 2, 9})
		after(c)
		c.Open(post(of(150, "x"), fl("t", "u")))
		after(c)
		c.Feed(bytesOfFrames(settings(), asks("abcdefgh")))
		after(c)
		c.Feed(bytesOfFrames(update(1, 100), update(0, 100)))
		c.Tick()
		c.Tick()
		after(c)
		c.Open(get("/"))
		c.Close()
		after(c)
		return c
	}
	whole := play(func(*Conn) {}).Take(math.MaxInt)
	sent := len(whole)
	for size := 1; size < 40; size++ {
		got := ""
		c := play(func(c *Conn) { got += c.Take(size) })
		if a, b := c.Count(); a != sent || b != len(got) {
			t.Errorf("pieces of %d: Count told %d, %d, not %d, %d", size, a, b, sent, len(got))
		}
		for b := c.Take(size); b != ""; b = c.Take(size) {
			got += b
		}
		if got != whole {
			t.Errorf("pieces of %d: %q, not %q", size, got, whole)
		}
		if a, b := c.Count(); a != sent || b != sent {
			t.Errorf("pieces of %d: Count told %d, %d, not %d twice", size, a, b, sent)
		}
	}
	if !strings.HasPrefix(whole, Preface) || !strings.HasSuffix(whole, of(8, "\x00")) {
		t.Errorf("said %q", whole)
	}
}

func TestCloseP1904(t *testing.T) {
	s := scene(t)
	s.c.Close()
	s.isBroken(api.CodeNone, api.ErrClosed)
	s.c.Close()
	s.said()
	s.stands(0, false, false, api.ErrClosed)
	// What was sent ahead of it stays.
	s = begun(t, plainConfig)
	s.c.Close()
	s.counts(51+17, 0)
	s.c.Take(len(Preface))
	if said := s.says(); len(said) != 2 || said[1] != saysAway(api.CodeNone) {
		t.Errorf("said %q", said)
	}
	// One that is broken stays broken by what broke it.
	s = scene(t)
	s.feeds(api.ErrProto, update(0, 0))
	s.c.Close()
	s.isBroken(api.CodeProtocol, api.ErrProto)
}

func TestGoneP1904(t *testing.T) {
	s := plain(t)
	s.stands(0, true, false, api.OK)
	s.feeds(api.OK, away(api.MaxIds, 0, ""))
	s.stands(0, false, true, api.OK)
	s.feeds(api.OK, settings(pf(api.PrefMany, 6)))
	s.stands(0, false, true, api.OK)
	s.c.Close()
	s.stands(0, false, true, api.ErrClosed)
	s = plain(t)
	s.c.Close()
	s.stands(0, false, false, api.ErrClosed)
}

func TestBusyAndCanP1904(t *testing.T) {
	s := met(t, plainConfig, pf(api.PrefMany, 2))
	s.stands(0, true, false, api.OK)
	s.opens(get("/"), 1)
	s.stands(1, true, false, api.OK)
	s.opens(post(of(200, "x")), 3)
	s.stands(2, false, false, api.OK)
	s.answers(api.OK, 3, true, st("200")) // it sends still
	s.stands(2, false, false, api.OK)
	s.cancels(1, api.OK, api.OK)
	s.stands(1, true, false, api.OK)
	s.forgets(1, true)
	s.stands(1, true, false, api.OK)
	s.feeds(api.OK, update(0, 500), update(3, 500)) // now it has ended
	s.stands(0, true, false, api.OK)
	s.forgets(3, true)
	s.stands(0, true, false, api.OK)
	s.feeds(api.OK, settings(pf(api.PrefMany, 0)))
	s.stands(0, false, false, api.OK)
}

func TestCountP1904(t *testing.T) {
	s := begun(t, plainConfig)
	s.counts(51, 0)
	s.feeds(api.OK, settings())
	s.counts(60, 0)
	s.c.Take(55)
	s.counts(60, 55)
	s.opens(get("/"), 1)
	sent, _ := s.c.Count()
	s.cancels(1, api.OK, api.OK)
	s.counts(sent+13, 55)
	s.forgets(1, true)
	s.reads(1, 1, "", api.ErrNone)
	s.counts(sent+13, 55)
	s.feeds(api.ErrProto, update(0, 0))
	s.counts(sent+13+17, 55)
	s.c.Take(1000)
	s.counts(sent+13+17, sent+13+17)
	s.c.Close()
	s.counts(sent+13+17, sent+13+17)
}

// idle holds all that one tells that New did not make.
func idle(t *testing.T, c *Conn) {
	t.Helper()
	s := &side{t: t, c: c}
	for range 3 {
		s.stands(0, false, false, api.ErrState)
		s.counts(0, 0)
		s.refuses(get("/"), api.ErrState)
		s.refuses(get(""), api.ErrState)
		s.feeds(api.ErrState)
		s.feeds(api.ErrState, settings(), update(0, 0))
		s.ticks(api.ErrState)
		s.c.Close()
		for _, id := range []int{0, 1, 2, -1, math.MaxInt} {
			for _, n := range []int{0, 1, -1} {
				s.reads(id, n, "", api.ErrState)
			}
			s.cancels(id, api.OK, api.ErrState)
			s.forgets(id, false)
			if i, e := s.c.Info(id); e != api.ErrState || !sameInfo(i, Info{}) {
				t.Errorf("Info(%d) told %+v, %d", id, i, e)
			}
		}
		for _, n := range []int{0, 1, -1, math.MaxInt} {
			if b := s.c.Take(n); b != "" {
				t.Errorf("Take(%d) told %q", n, b)
			}
		}
	}
}

func TestNilP1904(t *testing.T) {
	idle(t, nil)
	idle(t, New(Config{}))
}

func TestZeroP1904(t *testing.T) {
	idle(t, new(Conn))
	idle(t, &Conn{})
	var c Conn
	idle(t, &c)
}
