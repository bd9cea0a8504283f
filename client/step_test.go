package client

import (
	"math"
	"testing"

	"bywash/api"
)

// lets lets a connection's server say how many streams may be open.
func (s *side) lets(k, many int) {
	s.t.Helper()
	s.feeds(k, api.OK, settings(pf(api.PrefMany, many)))
}

// What waits again is ahead of what waited, by its number, whatever order it failed in.
func TestStepOrderP2401(t *testing.T) {
	s := with(t, usual, 1, gots(9)...)
	s.waiting(7, 8, 9)
	s.lets(1, 0)
	s.feeds(1, api.OK, reset(7, api.CodeRefused), reset(3, api.CodeFlow), reset(11, api.CodeRefused))
	s.waiting(7, 8, 9) // till Step
	s.is(4, 2, 1, 7, 1, "")
	s.c.Step()
	s.waiting(2, 4, 6, 7, 8, 9)
	for _, id := range []int{2, 4, 6} {
		s.is(id, 1, 0, 0, 1, "")
	}
	s.is(5, 2, 1, 9, 1, "")
	s.feeds(1, api.OK, away(0))
	s.c.Step()
	s.waiting(1, 3, 5, 2, 4, 6, 7, 8, 9) // these came to wait later, so that they are first
	s.conns()
	s.comes()
	s.c.Step()
	for i, id := range []int{1, 3, 5, 2, 4, 6} {
		s.is(id, 2, 2, 2*i+1, 2, "")
	}
	s.feeds(2, api.ErrProto, promise()) // by their numbers, not by those of their streams
	s.c.Step()
	s.waiting(1, 2, 3, 4, 5, 6, 7, 8, 9)
}

// At one Step some wait again, some are over, and what waits again goes out once more.
func TestStepAllAtOnceP2401(t *testing.T) {
	s := with(t, usual, 1, get(), get(), post(""), get(), get(), get(), get(), get())
	s.hears(1)
	s.answers(1, 1, true, st("200"))
	s.feeds(1, api.OK, reset(3, api.CodeRefused), reset(5, api.CodeFlow), reset(9, api.CodeCancel))
	s.c.Step()
	s.is(1, 3, 1, 1, 1, "")
	s.is(2, 2, 1, 13, 2, "") // ahead of those that waited
	s.is(3, 3, 1, 5, 1, "call: reset")
	s.is(4, 2, 1, 7, 1, "")
	s.is(5, 3, 1, 9, 1, "call: cancel")
	s.is(6, 2, 1, 11, 1, "")
	s.is(7, 2, 1, 15, 1, "")
	s.is(8, 2, 1, 17, 1, "")
	s.waiting()
	s.said(1, "headers 13", "headers 15", "headers 17")
}

// One that is Done is answered, by whatever its stream ended.
func TestStepDoneP2401(t *testing.T) {
	body := of(api.MaxBody, "b") // more than the windows let
	for what, end := range map[string]func(s *side){
		"reset":    func(s *side) { s.feeds(1, api.OK, reset(1, api.CodeFlow)) },
		"refused":  func(s *side) { s.feeds(1, api.OK, reset(1, api.CodeRefused)) },
		"canceled": func(s *side) { s.feeds(1, api.OK, reset(1, api.CodeCancel)) },
		"gone":     func(s *side) { s.feeds(1, api.OK, away(0)) },
		"dead":     func(s *side) { s.feeds(1, api.ErrProto, promise()) },
		"no error": func(s *side) { s.feeds(1, api.OK, reset(1, api.CodeNone)) },
		"to its end": func(s *side) {
			s.feeds(1, api.OK, update(0, 999), update(1, 999))
		},
	} {
		for _, r := range []api.Request{post(body), request("GET", body)} {
			s := with(t, usual, 1, r)
			s.hears(1)
			s.answers(1, 1, false, st("200"), fl("a", "b"))
			s.feeds(1, api.OK, dataEnd(1, "hello"))
			s.c.Step()
			s.is(1, 2, 1, 1, 1, "") // Done, and not Over yet
			s.reads(1, 2, "he", api.OK)
			end(s)
			s.is(1, 2, 1, 1, 1, "")
			s.c.Step()
			s.is(1, 3, 1, 1, 1, "")
			s.gets(1, 200, fl("a", "b"))
			keeps := what != "gone" && what != "dead"
			if l := s.c.Conns(); len(l) == 1 != keeps {
				t.Errorf("%s: connections %v", what, l)
			}
			if what == "reset" || what == "refused" || what == "dead" || what == "gone" || what == "canceled" {
				continue
			}
			s.reads(1, 9, "llo", api.OK) // Read with an Err has a test of its own
			s.reads(1, 9, "", api.OK)
		}
	}
}

// An error of a stream whose response is not Done counts, whatever came of it.
func TestStepNotDoneP2401(t *testing.T) {
	for _, ahead := range []func(s *side){
		func(s *side) {},
		func(s *side) { s.answers(1, 1, false, st("103")) },
		func(s *side) { s.answers(1, 1, false, st("200"), fl("content-length", "5")) },
		func(s *side) {
			s.answers(1, 1, false, st("200"), fl("content-length", "5"))
			s.feeds(1, api.OK, data(1, "hello"))
		},
	} {
		s := with(t, usual, 1, post(""))
		s.hears(1)
		ahead(s)
		s.c.Step()
		s.is(1, 2, 1, 1, 1, "")
		s.feeds(1, api.OK, reset(1, api.CodeNone))
		s.c.Step()
		s.is(1, 3, 1, 1, 1, "call: reset")
		s.reads(1, 9, "", api.ErrState)
		s.drops(1, true)
	}
}

// The stream of one that is over is known until its Drop, whatever becomes of the others.
func TestStepOverP2401(t *testing.T) {
	s := with(t, usual, 1, gots(7)...)
	s.hears(1)
	s.answers(1, 1, false, st("200"), fl("a", "b"))
	s.feeds(1, api.OK, dataEnd(1, "hello"))
	s.is(1, 2, 1, 1, 1, "")
	s.waiting(7)
	s.c.Step()
	s.is(1, 3, 1, 1, 1, "")
	s.is(7, 2, 1, 13, 1, "") // in its place
	for range 3 {
		s.c.Step()
		s.is(1, 3, 1, 1, 1, "")
		s.gets(1, 200, fl("a", "b"))
	}
	s.reads(1, 3, "hel", api.OK)
	s.feeds(1, api.ErrProto, promise())
	s.c.Step()
	s.is(1, 3, 1, 1, 1, "")
	s.gets(1, 200, fl("a", "b"))
	s.reads(1, 3, "lo", api.OK)
	s.drops(1, true)
	s.unknown(1)
}

// What the pool lets go goes on, as long as a call keeps it.
func TestStepSweepP2401(t *testing.T) {
	s := with(t, usual, 1, gots(3)...)
	s.hears(1)
	s.answers(1, 1, false, st("200"))
	s.feeds(1, api.OK, away(3), dataEnd(1, "hello"))
	s.c.Step()
	s.conns(1) // one is under way there
	s.is(1, 3, 1, 1, 1, "")
	s.is(2, 2, 1, 3, 1, "")
	s.is(3, 1, 0, 0, 1, "")
	s.dials(true) // but no other one goes there
	s.c.Dialed(false)
	s.is(3, 1, 0, 0, 2, "")
	s.answers(1, 3, false, st("404"))
	s.feeds(1, api.OK, dataEnd(3, "no"))
	s.conns(1) // till Step
	s.c.Step()
	s.conns()
	s.is(2, 3, 1, 3, 1, "")
	s.feeds(1, api.OK, asks(7))
	s.said(1, "ping 0")
	s.reads(1, 9, "hello", api.OK)
	s.reads(2, 9, "no", api.OK)
	s.drops(1, true)
	s.feeds(1, api.OK, asks(8))
	s.said(1, "ping 0")
	s.drops(2, true)
	s.feeds(1, api.ErrNone, asks(9))
	s.said(1)
	s.comes()
	s.c.Step()
	s.is(3, 2, 2, 1, 3, "")
	s.conns(2)
}

// A pool that somebody else swept is no matter.
func TestStepSweptP2401(t *testing.T) {
	s := with(t, usual, 1, gots(2)...)
	s.hears(1)
	s.answers(1, 1, false, st("200"))
	s.feeds(1, api.OK, dataEnd(1, "hello"))
	s.c.Pool().At(1).Close()
	s.c.Pool().Sweep()
	s.conns()
	s.is(2, 2, 1, 3, 1, "")
	s.reads(1, 9, "hello", api.OK)
	s.gets(1, 200)
	s.feeds(1, api.ErrClosed)
	s.said(1, "away 0")
	s.c.Step()
	s.is(1, 3, 1, 1, 1, "")
	s.is(2, 1, 0, 0, 1, "")
	s.cancels(2, api.OK)
}

// Streams are given in order, to as many as connections let be.
func TestStepStreamsP2401(t *testing.T) {
	s := with(t, usual, 0, gots(12)...)
	s.waiting(1, 2, 3, 4, 5, 6, 7, 8, 9, 10, 11, 12)
	s.comes()
	s.lets(1, 2)
	s.waiting(1, 2, 3, 4, 5, 6, 7, 8, 9, 10, 11, 12) // till Step
	s.c.Step()
	s.is(1, 2, 1, 1, 1, "")
	s.is(2, 2, 1, 3, 1, "")
	s.waiting(3, 4, 5, 6, 7, 8, 9, 10, 11, 12)
	s.c.Step()
	s.waiting(3, 4, 5, 6, 7, 8, 9, 10, 11, 12)
	s.comes()
	s.lets(2, 3)
	s.lets(1, 3)
	s.c.Step()
	s.is(3, 2, 1, 5, 1, "") // the least number that can, first
	s.is(4, 2, 2, 1, 1, "")
	s.is(5, 2, 2, 3, 1, "")
	s.is(6, 2, 2, 5, 1, "")
	s.waiting(7, 8, 9, 10, 11, 12)
	s.answers(2, 3, true, st("200"))
	s.answers(1, 5, true, st("200"))
	s.waiting(7, 8, 9, 10, 11, 12)
	s.c.Step()
	s.is(7, 2, 1, 7, 1, "")
	s.is(8, 2, 2, 7, 1, "")
	s.waiting(9, 10, 11, 12)
	s.cancels(8, api.OK) // its end lets another one go on, at the next Step
	s.is(9, 1, 0, 0, 0, "")
	s.c.Step()
	s.is(9, 2, 2, 9, 1, "")
	s.said(1, "settings 0", "headers 1", "headers 3", "settings 0", "headers 5", "headers 7")
	s.said(2, "settings 0", "headers 1", "headers 3", "headers 5", "headers 7", "reset 7 8", "headers 9")
}

// A connection whose numbers are used up is let go, and another one goes on.
func TestStepNumbersP2401(t *testing.T) {
	c := usual
	c.Conn.First = api.MaxIds - 2
	s := with(t, c, 1, gots(4)...)
	s.is(1, 2, 1, api.MaxIds-2, 1, "")
	s.is(2, 2, 1, api.MaxIds, 1, "")
	s.waiting(3, 4)
	s.is(3, 1, 0, 0, 0, "") // it was not tried
	s.answers(1, api.MaxIds, true, st("200"))
	s.c.Step()
	s.waiting(3, 4)
	s.conns(1)
	s.comes()
	s.answers(1, api.MaxIds-2, true, st("200"))
	s.c.Step()
	s.conns(2)
	s.is(3, 2, 2, api.MaxIds-2, 1, "")
	s.is(4, 2, 2, api.MaxIds, 1, "")
	s.drops(1, true)
	s.is(2, 3, 1, api.MaxIds, 1, "")
	s.gets(2, 200)
}

// An Open that tells an error ends its call, and no other one. Do lets no such request in, so that it is put there.
func TestStepOpenFailsP2401(t *testing.T) {
	for _, x := range []struct {
		turn  func(r *api.Request)
		words string
	}{
		{func(r *api.Request) {
			r.Fields = []api.Field{fl("a", of(200, "b")), fl("a", of(200, "b")), fl("a", of(200, "b"))}
		}, "call: size"},
		{func(r *api.Request) { r.Path = "" }, "call: form"},
		{func(r *api.Request) { r.Body = of(api.MaxBody+1, "b") }, "call: arg"},
		{func(r *api.Request) { r.Fields = []api.Field{fl("content-length", "1")} }, "call: length"},
	} {
		s := with(t, usual, 0, gots(8)...)
		x.turn(&s.c.known[2].request)
		x.turn(&s.c.known[3].request)
		x.turn(&s.c.known[8].request)
		s.comes()
		s.c.Step()
		s.is(1, 2, 1, 1, 1, "")
		s.is(2, 3, 0, 0, 1, x.words)
		s.is(3, 3, 0, 0, 1, x.words)
		for id := 4; id < 8; id++ {
			s.is(id, 2, 1, 2*id-5, 1, "")
		}
		s.waiting()
		s.is(8, 3, 0, 0, 1, x.words)
		s.reads(2, 9, "", api.ErrState)
		s.gets(2, 0)
		s.cancels(2, api.ErrClosed)
		s.drops(2, true)
		s.unknown(2)
		for range 7 {
			s.does(get()) // five are under way, so that the three are over
		}
		s.refuses(get(), api.ErrBusy)
	}
	s := with(t, usual, 0, get(), get())
	s.misses()
	s.c.known[1].request.Path = ""
	s.comes()
	s.c.Step()
	s.is(1, 3, 0, 0, 2, "again: call: form") // behind a first try that failed otherwise
	s.is(2, 2, 1, 1, 1, "")
}

// Step does nothing of itself: none waits, none can.
func TestStepNothingP2401(t *testing.T) {
	s := with(t, usual, 1)
	s.c.Step()
	s.conns(1)
	s.said(1)
	s.lets(1, 0)
	s.does(get())
	s.c.Step()
	s.waiting(1)
	s.is(1, 1, 0, 0, 0, "")
	s.said(1, "settings 0")
	s.c.Pool().At(1).Close()
	s.conns(1)
	s.c.Step()
	s.conns()
	s.waiting(1)
	if b := s.c.Take(1, math.MaxInt); b != "" {
		t.Errorf("what is let go says %q", b)
	}
}
