package client

import (
	"math"
	"slices"
	"strings"
	"testing"

	"bywash/api"
	"bywash/conn"
	"bywash/pool"
)

func TestDialP2403(t *testing.T) {
	s := made(t, usual) // of two connections at most
	s.dials(false)      // nobody waits
	s.does(get())
	s.dials(true)
	s.dials(false) // somebody dials
	s.conns()
	if k := s.c.Dialed(true); k != 1 {
		t.Fatalf("Dialed(true): %d", k)
	}
	s.conns(1)
	s.dials(false) // one can be picked
	s.c.Step()
	s.dials(false) // nobody waits
	for range 6 {
		s.does(get())
	}
	s.dials(false) // one can be picked
	s.c.Step()
	s.waiting(7)
	s.dials(true) // it is busy
	if k := s.c.Dialed(true); k != 2 {
		t.Fatalf("Dialed(true): %d", k)
	}
	s.lets(2, 0)
	s.dials(false) // most are there
	s.c.Pool().At(1).Close()
	s.dials(true) // one is broken
	s.dials(false)
	if k := s.c.Dialed(true); k != 3 {
		t.Fatalf("Dialed(true): %d", k)
	}
	s.conns(1, 2, 3)
	s.cancels(7, api.OK)
	s.lets(3, 0)
	s.feeds(2, api.OK, away(0))
	s.dials(false) // nobody waits
	s.c.Step()     // those of the first one
	s.conns(3)
	s.waiting(1, 2, 3, 4, 5, 6)
	s.dials(true)
	s.misses()
	s.dials(true)
	if k := s.c.Dialed(true); k != 4 {
		t.Fatalf("Dialed(true): %d", k)
	}
	s.c.Step()
	s.is(1, 2, 4, 1, 3, "")
	s.waiting()
}

// The pool is told how many wait, whoever dials.
func TestDialPoolP2403(t *testing.T) {
	s := made(t, usual)
	s.does(get())
	s.c.Pool().Dial()
	s.dials(false)
	s.c.Pool().Dialed(false)
	s.is(1, 1, 0, 0, 0, "") // that was the pool's own
	s.dials(true)
	s.c.Pool().Dialed(false)
	s.is(1, 1, 0, 0, 0, "")
	if k := s.c.Dialed(false); k != 0 {
		t.Errorf("Dialed(false) with nobody dialling: %d", k)
	}
	s.is(1, 1, 0, 0, 0, "")
}

func TestDialedP2403(t *testing.T) {
	s := made(t, usual)
	s.does(post("body"))
	s.does(get())
	nobody := func() {
		t.Helper()
		for _, ok := range []bool{true, false, true} {
			if k := s.c.Dialed(ok); k != 0 {
				t.Fatalf("Dialed(%v) with nobody dialling: %d", ok, k)
			}
		}
	}
	nobody()
	s.is(1, 1, 0, 0, 0, "")
	s.conns()
	for tries := 1; tries < 3; tries++ {
		s.misses()
		nobody()
		s.is(1, 1, 0, 0, tries, "")
		s.is(2, 1, 0, 0, 0, "")
		s.waiting(1, 2) // the first one waits first again
	}
	s.misses()
	s.is(1, 3, 0, 0, 3, "again: call: dial")
	s.fails(1, api.ErrMany, []string{"again", "call"}, api.ErrMany, api.ErrDial)
	s.waiting(2)
	s.misses()
	s.is(2, 1, 0, 0, 1, "")
	s.misses()
	s.misses()
	s.is(2, 3, 0, 0, 3, "again: call: dial")
	s.waiting()
	s.misses() // with none that waits
	s.misses()
	s.is(1, 3, 0, 0, 3, "again: call: dial")
	s.is(2, 3, 0, 0, 3, "again: call: dial")
	for k := 1; k < 5; k++ {
		if got := s.comes(); got != k {
			t.Fatalf("Dialed(true): %d, not %d", got, k)
		}
		nobody()
		s.misses()
	}
	s.conns(1, 2, 3, 4)
	s.c.Pool().At(4).Close()
	s.c.Step()
	s.conns(1, 2, 3)
	if got := s.comes(); got != 5 {
		t.Fatalf("Dialed(true): %d, not 5", got)
	}
}

// The tries of dialling and of sending are counted together; one under way is not the first that waits.
func TestDialedTriesP2403(t *testing.T) {
	s := with(t, usual, 1, gots(7)...)
	s.misses()
	s.is(1, 2, 1, 1, 1, "")
	s.is(7, 1, 0, 0, 1, "")
	s.lets(1, 0)
	s.feeds(1, api.OK, reset(1, api.CodeRefused))
	s.c.Step()
	s.waiting(1, 7)
	s.misses()
	s.is(1, 1, 0, 0, 2, "")
	s.is(7, 1, 0, 0, 1, "")
	s.lets(1, 6)
	s.c.Step()
	s.is(1, 2, 1, 13, 3, "")
	s.waiting(7)
	s.feeds(1, api.OK, reset(13, api.CodeRefused))
	s.c.Step()
	s.overBy(1, 1, 13, 3, api.ErrRefused)
	s.is(7, 2, 1, 15, 2, "")
}

func TestFeedTakeP2403(t *testing.T) {
	s := made(t, usual)
	none := func(l ...int) {
		t.Helper()
		for _, k := range l {
			for _, b := range []string{"", "x", bytesOf(settings())} {
				if e := s.c.Feed(k, b); e != api.ErrNone {
					t.Fatalf("Feed(%d, %q): %d", k, b, e)
				}
			}
			for _, n := range []int{0, 1, math.MaxInt, -1} {
				if b := s.c.Take(k, n); b != "" {
					t.Fatalf("Take(%d, %d): %q", k, n, b)
				}
			}
		}
	}
	none(0, -1, 1, 2, math.MaxInt, math.MinInt)
	s.c.Pool().Dial()
	none(1)
	s.c.Dialed(true)
	none(0, -1, 2, 1+1<<32, math.MaxInt)
	whole := conn.New(usual.Conn).Take(999)
	for _, n := range []int{0, -1, math.MinInt} {
		if b := s.c.Take(1, n); b != "" {
			t.Fatalf("Take(1, %d): %q", n, b)
		}
	}
	told := ""
	for _, n := range []int{1, 0, 2, 3, -1, 5, 8, math.MaxInt} {
		b := s.c.Take(1, n)
		if n < 99 && len(b) != max(n, 0) {
			t.Fatalf("Take(1, %d): %d bytes", n, len(b))
		}
		told += b
	}
	if told != whole || s.c.Take(1, math.MaxInt) != "" {
		t.Errorf("in pieces: %q, not %q", told, whole)
	}
	for _, b := range bytesOf(settings(pf(api.PrefMany, 1))) { // in pieces, too
		if e := s.c.Feed(1, string([]byte{byte(b)})); e != api.OK {
			t.Fatalf("Feed: %d", e)
		}
	}
	s.ins[1] = nil
	s.said(1, "settings 0")
	s.feeds(1, api.OK)
	s.c.Pool().Dial()
	s.c.Dialed(true)
	if e := s.c.Feed(2, bytesOf(promise())); e != api.ErrProto {
		t.Errorf("Feed of a Promise: %d", e)
	}
	s.feeds(2, api.ErrProto) // each later one tells so
	s.feeds(2, api.ErrProto, settings())
	if b := s.c.Take(2, math.MaxInt); !strings.HasPrefix(b, whole) || len(b) != len(whole)+17 {
		t.Errorf("a broken one says %q", b)
	}
	s.feeds(1, api.OK, asks(3))
	s.said(1, "ping 0")
	s.c.Step()
	none(2)
	s.feeds(1, api.OK)
}

// What the pool let go is fed, and says, as long as a call of it is known, be it over by whichever way.
func TestKeptP2403(t *testing.T) {
	s := with(t, usual, 1, get(), get(), post(""), get(), get())
	s.hears(1)
	s.answers(1, 1, true, st("200"))
	s.answers(1, 3, true, st("200"))
	s.c.Step()
	s.cancels(4, api.OK)
	s.feeds(1, api.OK, away(7))
	s.feeds(1, api.OK, reset(5, api.CodeFlow))
	s.c.Step()
	s.conns()
	s.is(1, 3, 1, 1, 1, "")
	s.is(3, 3, 1, 5, 1, "call: reset")
	s.is(4, 3, 1, 7, 1, "cancel")
	s.is(5, 1, 0, 0, 1, "") // which went from it
	s.hears(1)
	for i, id := range []int{2, 4, 1, 3} {
		s.feeds(1, api.OK, asks(i))
		s.said(1, "ping 0")
		s.feeds(2, api.ErrNone)
		s.drops(id, true)
	}
	s.feeds(1, api.ErrNone)
	s.said(1)
	s.comes()
	s.c.Step()
	s.is(5, 2, 2, 1, 2, "")
}

// A broken one that is kept tells its error, and what was sent ahead of it can still be taken.
func TestKeptBrokenP2403(t *testing.T) {
	s := with(t, usual, 1, get(), post(""), get())
	s.feeds(1, api.ErrProto, promise())
	s.cancels(1, api.OK)
	s.is(1, 3, 1, 1, 1, "cancel")
	s.c.Step()
	s.conns()
	s.is(2, 1, 0, 0, 1, "")
	s.is(3, 1, 0, 0, 1, "")
	s.feeds(1, api.ErrProto)
	if b := s.c.Take(1, 9); len(b) != 9 {
		t.Fatalf("Take: %q", b)
	}
	s.c.Tick()
	s.feeds(1, api.ErrProto, settings())
	s.drops(1, true)
	s.feeds(1, api.ErrNone)
	if b := s.c.Take(1, 9); b != "" {
		t.Fatalf("Take: %q", b)
	}
}

func TestStateP2403(t *testing.T) {
	s := with(t, usual, 1, gots(8)...)
	s.is(6, 2, 1, 11, 1, "")
	s.is(7, 1, 0, 0, 0, "")
	s.unknown(0, -1, 9, 10, math.MaxInt, math.MinInt, 1+1<<32)
	s.answers(1, 1, true, st("200"))
	s.feeds(1, api.OK, reset(3, api.CodeCancel))
	s.c.Step()
	s.is(1, 3, 1, 1, 1, "")
	s.is(2, 3, 1, 3, 1, "call: cancel")
	s.is(7, 2, 1, 13, 1, "")
	s.cancels(3, api.OK)
	s.is(3, 3, 1, 5, 1, "cancel")
	got, _ := s.c.State(1)
	if got != (State{Phase: 3, Conn: 1, Stream: 1, Tries: 1}) {
		t.Errorf("State(1): %v", got)
	}
	s.drops(2, true)
	s.unknown(2)
}

func TestReadP2403(t *testing.T) {
	s := with(t, usual, 1, gots(8)...)
	s.hears(1)
	ns := []int{0, -1, 1, 5, math.MaxInt, math.MinInt}
	for _, n := range ns {
		s.reads(7, n, "", api.ErrState) // it waits
		s.reads(1, n, "", api.OK)       // nothing came
		s.reads(9, n, "", api.ErrNone)
	}
	for id := 1; id < 12; id += 2 {
		s.answers(1, id, false, st("200"))
	}
	s.feeds(1, api.OK, data(1, "hello"), dataEnd(3, "there"), data(5, "never"), data(7, "known"), reset(7, api.CodeCancel))
	for _, n := range []int{0, -1, math.MinInt} {
		s.reads(1, n, "", api.OK)
	}
	s.reads(1, 2, "he", api.OK)
	s.reads(1, 1, "l", api.OK)
	s.reads(1, math.MaxInt, "lo", api.OK)
	s.reads(1, math.MaxInt, "", api.OK)
	s.reads(2, 1, "t", api.OK) // over, but not yet by Step
	s.reads(4, 1, "k", api.OK) // failed, but not yet by Step
	s.c.Step()
	s.cancels(3, api.OK)
	for _, n := range ns {
		s.reads(3, n, "", api.ErrState) // it was broken off
		s.reads(4, n, "", api.ErrState) // over with an Err
	}
	s.reads(2, 0, "", api.OK)
	s.reads(2, -1, "", api.OK)
	s.reads(2, 3, "her", api.OK)
	s.reads(2, 99, "e", api.OK)
	s.reads(2, 99, "", api.OK)
	s.drops(2, true)
	for _, n := range ns {
		s.reads(2, n, "", api.ErrNone)
	}
	s.said(1, "headers 13", "headers 15", "reset 5 8")
}

// Behind the last byte is what ended the stream, if that was an error.
func TestReadErrP2403(t *testing.T) {
	s := with(t, usual, 1, get(), post(of(400, "b")), get())
	for id := 1; id < 6; id += 2 {
		s.answers(1, id, false, st("200"))
	}
	s.feeds(1, api.OK, data(1, "hello"), reset(1, api.CodeFlow))
	s.reads(1, 3, "hel", api.OK)
	s.reads(1, 3, "lo", api.OK)
	s.reads(1, 0, "", api.OK)
	s.reads(1, 3, "", api.ErrReset) // as of a connection, till Step
	s.is(1, 2, 1, 1, 1, "")
	s.feeds(1, api.OK, dataEnd(3, "there"))
	s.feeds(1, api.ErrProto, promise())
	s.c.Step()
	s.is(2, 3, 1, 3, 1, "") // Done ahead of it
	s.reads(2, 9, "there", api.OK)
	s.reads(2, 9, "", api.ErrDead)
	s.reads(2, 0, "", api.OK)
	s.is(2, 3, 1, 3, 1, "")
	s.waiting(1, 3)
}

// Bytes that are read one by one are credited as a connection does, while it is under way, and behind that.
func TestReadCreditsP2403(t *testing.T) {
	s := with(t, usual, 1, get(), get())
	s.hears(1)
	s.answers(1, 1, false, st("200"))
	s.feeds(1, api.OK, data(1, of(60, "x")))
	for n := range 60 {
		s.reads(1, 1, "x", api.OK)
		if n == 49 {
			s.said(1, "update 1 50", "update 0 50")
		} else {
			s.said(1)
		}
	}
	s.reads(1, 1, "", api.OK)
	s.feeds(1, api.OK, dataEnd(1, of(60, "y")))
	s.c.Step()
	s.is(1, 3, 1, 1, 1, "")
	for n := range 60 {
		s.reads(1, 1, "y", api.OK)
		if n == 39 {
			s.said(1, "update 0 50") // the stream is over: the connection's alone
		} else {
			s.said(1)
		}
	}
	s.drops(1, true)
	s.said(1)
}

func TestResponseP2403(t *testing.T) {
	s := with(t, usual, 1, gots(7)...)
	s.gets(1, 0)
	s.gets(7, 0)
	s.answers(1, 1, false, st("103"), fl("early", "x"))
	s.gets(1, 0)
	s.answers(1, 1, false, st("200"), fl("a", "b"), fl("c", "d"))
	s.gets(1, 200, fl("a", "b"), fl("c", "d"))
	s.feeds(1, api.OK, data(1, "hello"))
	s.gets(1, 200, fl("a", "b"), fl("c", "d"))
	s.answers(1, 3, true, st("599"))
	s.gets(2, 599)
	s.answers(1, 1, true, fl("e", "f"))
	holds := func() {
		t.Helper()
		r, is := s.c.Response(1)
		if !is || r.Status != 200 || !slices.Equal(r.Fields, []api.Field{fl("a", "b"), fl("c", "d")}) || r.Body != "" || !slices.Equal(r.Trailers, []api.Field{fl("e", "f")}) {
			t.Fatalf("Response(1): %v, %v", r, is)
		}
		r.Fields[0], r.Fields[1], r.Trailers[0] = fl("turned", ""), fl("turned", ""), fl("turned", "") // they are its asker's own
		r.Fields, r.Trailers = append(r.Fields[:1], fl("turned", "")), append(r.Trailers, fl("turned", ""))
	}
	holds()
	holds()
	s.c.Step()
	s.is(1, 3, 1, 1, 1, "")
	holds()
	s.reads(1, 9, "hello", api.OK)
	holds()
	s.gets(2, 599)
	s.feeds(1, api.OK, away(0))
	s.c.Step()
	s.conns()
	holds()
	s.drops(1, true)
	s.gets(1, 0)
	s.gets(2, 599)
	s.gets(7, 0)
	s.gets(0, 0)
	s.gets(-1, 0)
	s.gets(math.MaxInt, 0)
}

// What came of a response that failed is known, as long as its stream is.
func TestResponseFailedP2403(t *testing.T) {
	s := with(t, usual, 1, get(), get(), get(), post(""))
	s.hears(1)
	for id := 1; id < 8; id += 2 {
		s.answers(1, id, false, st("200"), fl("a", "b"))
	}
	s.feeds(1, api.OK, reset(1, api.CodeCancel), reset(3, api.CodeFlow), reset(7, api.CodeFlow))
	s.lets(1, 0)
	s.gets(2, 200, fl("a", "b"))
	s.c.Step()
	s.gets(1, 200, fl("a", "b")) // over, with an Err
	s.gets(2, 0)                 // it waits again
	s.gets(3, 200, fl("a", "b"))
	s.gets(4, 200, fl("a", "b"))
	s.lets(1, 4)
	s.c.Step()
	s.is(2, 2, 1, 9, 2, "")
	s.gets(2, 0)
	s.answers(1, 9, true, st("404"))
	s.gets(2, 404)
	s.cancels(2, api.OK)
	s.gets(2, 404)
	for id := range 4 {
		s.c.Drop(id + 1)
	}
	s.gets(1, 0)
	s.gets(3, 200, fl("a", "b"))
}

func TestDropP2403(t *testing.T) {
	s := with(t, usual, 1, gots(7)...)
	s.hears(1)
	s.drops(7, false) // it waits
	s.drops(1, false) // under way
	s.answers(1, 1, false, st("200"))
	s.feeds(1, api.OK, dataEnd(1, of(60, "x")), reset(3, api.CodeCancel))
	s.drops(1, false) // Step did not see it
	s.drops(2, false)
	s.c.Step()
	s.cancels(3, api.OK)
	s.hears(1)
	for _, id := range []int{1, 2, 3} {
		stream := 2*id - 1
		if _, e := s.c.Pool().At(1).Info(stream); e != api.OK {
			t.Errorf("stream %d: %d, ahead of Drop", stream, e)
		}
		s.drops(id, true)
		if _, e := s.c.Pool().At(1).Info(stream); e != api.ErrNone {
			t.Errorf("stream %d: %d, behind Drop", stream, e)
		}
		s.unknown(id)
		s.drops(id, false)
	}
	s.said(1, "update 0 60") // what was not read
	for _, id := range []int{0, -1, 8, 1 << 32, math.MaxInt, math.MinInt} {
		s.drops(id, false)
	}
	s.is(4, 2, 1, 7, 1, "")
	s.is(7, 2, 1, 13, 1, "")
	if id := s.does(get()); id != 8 { // numbers are not used twice
		t.Errorf("Do: %d", id)
	}
	s.c.Step()
	s.is(8, 2, 1, 15, 1, "") // nor are streams
	s.drops(4, false)
}

func TestListsP2403(t *testing.T) {
	s := with(t, usual, 0, gots(5)...)
	s.comes()
	s.comes()
	s.comes()
	for range 3 {
		s.waiting(1, 2, 3, 4, 5)
		s.conns(1, 2, 3)
		for _, l := range [][]int{s.c.Waiting(), s.c.Conns()} {
			for i := range l {
				l[i] = 99 - i
			}
			_ = append(l[:1], 7, 8, 9)
		}
	}
	held, there := s.c.Waiting(), s.c.Conns()
	s.cancels(2, api.OK)
	s.c.Pool().At(2).Close()
	s.c.Step()
	s.waiting()
	s.conns(1, 3)
	if !slices.Equal(held, []int{1, 2, 3, 4, 5}) || !slices.Equal(there, []int{1, 2, 3}) {
		t.Errorf("what was handed out became %v, %v", held, there)
	}
}

// The pool is the client's own, the same at each call.
func TestPoolP2403(t *testing.T) {
	s := made(t, usual)
	p := s.c.Pool()
	if p == nil || p != s.c.Pool() {
		t.Fatalf("Pool: %p, then %p", p, s.c.Pool())
	}
	s.comes()
	if c := p.At(1); c == nil || !slices.Equal(p.All(), []int{1}) || p != s.c.Pool() {
		t.Fatalf("At(1): %p", c)
	}
	s.does(get())
	s.c.Step()
	if p.At(1).Busy() != 1 {
		t.Errorf("Busy: %d", p.At(1).Busy())
	}
}

// A nil client, and one that New did not make, have nothing.
func TestNilP2403(t *testing.T) {
	var zero Client
	for _, c := range []*Client{nil, &zero, new(Client)} {
		for range 2 {
			c.Step()
			c.Tick()
			if id, e := c.Do(get()); id != 0 || e != api.ErrState {
				t.Errorf("Do: %d, %d", id, e)
			}
			if id, e := c.Do(api.Request{}); id != 0 || e != api.ErrState {
				t.Errorf("Do: %d, %d", id, e)
			}
			for id := -1; id < 3; id++ {
				if e := c.Cancel(id); e != api.ErrState {
					t.Errorf("Cancel: %d", e)
				}
				if b, e := c.Read(id, 9); b != "" || e != api.ErrState {
					t.Errorf("Read: %q, %d", b, e)
				}
				if e := c.Feed(id, bytesOf(settings())); e != api.ErrState {
					t.Errorf("Feed: %d", e)
				}
				if b := c.Take(id, 9); b != "" {
					t.Errorf("Take: %q", b)
				}
				x, is := c.State(id)
				r, too := c.Response(id)
				if is || too || x != (State{}) || r.Status != 0 || r.Fields != nil || r.Trailers != nil || r.Body != "" || c.Drop(id) {
					t.Errorf("of %d: %v, %v, %v, %v", id, x, is, r, too)
				}
			}
			if c.Dial() || c.Dialed(true) != 0 || c.Dialed(false) != 0 || c.Dial() {
				t.Error("it dials")
			}
			if len(c.Waiting()) != 0 || len(c.Conns()) != 0 || c.Pool() != (*pool.Pool)(nil) {
				t.Errorf("%v, %v, %p", c.Waiting(), c.Conns(), c.Pool())
			}
		}
	}
}
