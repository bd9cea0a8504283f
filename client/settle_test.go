package client

import (
	"fmt"
	"math"
	"slices"
	"testing"

	"bywash/api"
	"bywash/fail"
)

// fault is a way in which a stream fails.
type fault struct {
	what string
	code api.Errno
	is   func(s *side, k, id int)
}

// faults tells all of them.
func faults() []fault {
	says := func(e api.Errno, l ...api.Frame) func(s *side, k, id int) {
		return func(s *side, k, id int) {
			s.t.Helper()
			for i := range l {
				if l[i].Kind != api.Away {
					l[i].Id = id
				}
			}
			s.feeds(k, e, l...)
		}
	}
	head := func(end bool, l ...api.Field) func(s *side, k, id int) {
		return func(s *side, k, id int) { s.t.Helper(); s.answers(k, id, end, l...) }
	}
	all := []fault{
		{"refused", api.ErrRefused, says(api.OK, reset(0, api.CodeRefused))},
		{"went away", api.ErrGone, says(api.OK, away(0))},
		{"broken", api.ErrDead, says(api.ErrProto, promise())},
		{"broken by a closed stream", api.ErrDead, func(s *side, k, id int) { s.c.Pool().At(k).Close() }},
		{"broken off", api.ErrCancel, says(api.OK, reset(0, api.CodeCancel))},
		{"Data ahead of all", api.ErrProto, says(api.OK, data(0, "x"))},
		{"an end ahead of all", api.ErrProto, head(true, st("103"))},
		{"a window that is too great", api.ErrFlow, says(api.OK, update(0, api.MaxWindow))},
		{"another length", api.ErrLength, func(s *side, k, id int) {
			s.answers(k, id, false, st("200"), fl("content-length", "1"))
			s.feeds(k, api.OK, data(id, "more"))
		}},
		{"a status that is none", api.ErrForm, head(false, st("2x0"))},
		{"a name that is none", api.ErrName, head(false, st("200"), fl("A", "b"))},
		{"a status that comes late", api.ErrOrder, head(false, fl("a", "b"), st("200"))},
	}
	for _, code := range []int{0, 1, 2, 3, 5, 6, 9, 10, 99, 1<<32 - 1} {
		all = append(all, fault{fmt.Sprint("reset by ", code), api.ErrReset, says(api.OK, reset(0, code))})
	}
	return all
}

// again tells by the words of chapter 21 whether something waits again.
func again(method string, code api.Errno, written bool, tries, most int) bool {
	safe := slices.Contains([]string{"GET", "HEAD", "PUT", "DELETE", "OPTIONS"}, method)
	switch code {
	case api.ErrRefused, api.ErrGone:
		return tries < most
	case api.ErrDead, api.ErrReset, api.ErrDial:
		return tries < most && (safe || !written)
	}
	return false
}

// settled holds what became of the one call whose stream failed.
func (s *side) settled(method string, code api.Errno, written bool, tries int) {
	s.t.Helper()
	if again(method, code, written, tries, s.c.tries) {
		s.is(1, 1, 0, 0, tries, "")
		s.waiting(1)
		s.gets(1, 0)
		s.reads(1, 9, "", api.ErrState)
		s.drops(1, false)
		return
	}
	s.waiting()
	s.overBy(1, 1, 1, tries, code)
}

// overBy holds all that is to be known of one that failed.
func (s *side) overBy(id, k, stream, tries int, code api.Errno) {
	s.t.Helper()
	if tries < 2 {
		s.is(id, 3, k, stream, tries, "call: "+fail.Name(code))
		s.fails(id, code, []string{"call"}, code)
	} else {
		s.is(id, 3, k, stream, tries, "again: call: "+fail.Name(code))
		s.fails(id, api.ErrMany, []string{"again", "call"}, api.ErrMany, code)
	}
	s.reads(id, 9, "", api.ErrState)
	s.cancels(id, api.ErrClosed)
}

func TestSettledP2402(t *testing.T) {
	seen := map[bool]int{}
	for _, f := range faults() {
		for _, method := range []string{"GET", "HEAD", "PUT", "DELETE", "OPTIONS", "POST", "PATCH", "get", "TRACE"} {
			for most := 1; most <= api.MaxTries; most++ {
				for tries := 1; tries <= most; tries++ {
					for _, written := range []bool{false, true} {
						c := usual
						c.Tries = most
						s := with(t, c, 0, request(method, ""))
						for range tries - 1 {
							s.misses()
						}
						s.comes()
						s.c.Step()
						if written {
							s.said(1, "headers 1")
						}
						s.lets(1, 0)
						f.is(s, 1, 1)
						s.is(1, 2, 1, 1, tries, "") // till Step
						s.c.Step()
						s.settled(method, f.code, written, tries)
						s.c.Step()
						s.settled(method, f.code, written, tries)
						seen[again(method, f.code, written, tries, most)]++
					}
				}
			}
		}
	}
	if seen[false] < 500 || seen[true] < 500 {
		t.Errorf("too few to say anything: %v", seen)
	}
}

// No connection is as nothing written.
func TestSettledDialP2402(t *testing.T) {
	for _, method := range []string{"GET", "POST"} {
		for most := 1; most <= api.MaxTries; most++ {
			c := usual
			c.Tries = most
			s := with(t, c, 0, request(method, "body"))
			for tries := 1; tries < most; tries++ {
				s.misses()
				s.is(1, 1, 0, 0, tries, "")
				s.waiting(1)
			}
			s.misses()
			s.waiting()
			s.overBy(1, 0, 0, most, api.ErrDial)
			s.gets(1, 0)
			s.misses()
			s.overBy(1, 0, 0, most, api.ErrDial)
			s.drops(1, true)
			s.unknown(1)
		}
	}
}

// The rows that matter most, one by one, without the list's help.
func TestSettledRowsP2402(t *testing.T) {
	for _, x := range []struct {
		what    string
		method  string
		says    api.Frame
		written bool
		phase   int
		words   string
	}{
		{"an unsafe one that was refused", "POST", reset(1, api.CodeRefused), true, 1, ""},
		{"an unsafe one that the server did not get", "POST", away(0), true, 1, ""},
		{"an unsafe one that the server got", "POST", away(1), true, 2, ""},
		{"an unsafe one that was reset, and written", "POST", reset(1, api.CodeFlow), true, 3, "call: reset"},
		{"an unsafe one that was reset, and not written", "POST", reset(1, api.CodeFlow), false, 1, ""},
		{"a safe one that was reset", "GET", reset(1, api.CodeFlow), true, 1, ""},
		{"a safe one that the server cancelled", "GET", reset(1, api.CodeCancel), false, 3, "call: cancel"},
		{"one that the server failed at", "GET", data(1, ""), false, 3, "call: proto"},
	} {
		s := with(t, usual, 1, request(x.method, ""))
		if x.written {
			s.hears(1)
		}
		s.lets(1, 0)
		s.feeds(1, api.OK, x.says)
		s.c.Step()
		got, _ := s.c.State(1)
		words := ""
		if got.Err != nil {
			words = got.Err.Error()
		}
		if got.Phase != x.phase || words != x.words || got.Tries != 1 {
			t.Errorf("%s: %v, %q", x.what, got, words)
		}
	}
}

// The error of one that is over is its asker's own.
func TestErrOwnP2402(t *testing.T) {
	s := with(t, usual, 1, get(), get(), get(), get())
	s.cancels(1, api.OK)
	s.feeds(1, api.OK, reset(3, api.CodeCancel), reset(5, api.CodeRefused))
	s.c.Step()
	s.feeds(1, api.OK, reset(9, api.CodeCancel))
	s.c.Step()
	for id, words := range map[int]string{1: "cancel", 2: "call: cancel", 3: "again: call: cancel"} {
		for range 3 {
			got, _ := s.c.State(id)
			if got.Err == nil || got.Err.Error() != words {
				t.Fatalf("State(%d): %v, not %q", id, got.Err, words)
			}
			for err := got.Err; err != nil; {
				f, is := err.(*fail.Failure)
				if !is {
					t.Fatalf("State(%d): %v is no Failure", id, err)
				}
				err = f.Err
				*f = fail.Failure{Op: "turned", Code: api.ErrBusy}
			}
		}
	}
	if got, _ := s.c.State(4); got.Err != nil {
		t.Errorf("State(4): %v", got.Err)
	}
}

// Of three calls behind one another, each is written as soon as one byte behind what was ahead of it was taken.
func TestWrittenP2402(t *testing.T) {
	begin := func() (*side, []int) {
		s := made(t, usual)
		s.c.Pool().Dial()
		s.c.Dialed(true)
		s.feeds(1, api.OK, settings())
		var ahead []int
		for range 3 {
			s.does(post("hello"))
			sent, _ := s.c.Pool().At(1).Count()
			ahead = append(ahead, sent)
			s.c.Step()
			s.feeds(1, api.OK, asks(7)) // its answer is another's bytes
		}
		sent, _ := s.c.Pool().At(1).Count()
		return s, append(ahead, sent)
	}
	_, marks := begin()
	for n := range marks[3] + 2 {
		for pieces := range 3 {
			s, ahead := begin()
			if !slices.Equal(ahead, marks) {
				t.Fatalf("sent %v, and then %v", marks, ahead)
			}
			switch pieces {
			case 0:
				s.c.Take(1, n)
			case 1:
				s.c.Take(1, n/2)
				s.c.Take(1, n-n/2)
			case 2:
				for range n {
					s.c.Take(1, 1)
				}
			}
			s.lets(1, 0)
			s.feeds(1, api.OK, reset(1, api.CodeFlow), reset(5, api.CodeFlow), reset(3, api.CodeFlow))
			s.c.Step()
			var want []int
			for i := range 3 {
				if n > ahead[i] {
					s.overBy(i+1, 1, 2*i+1, 1, api.ErrReset)
				} else {
					s.is(i+1, 1, 0, 0, 1, "")
					want = append(want, i+1)
				}
			}
			s.waiting(want...)
		}
	}
}

// What counts is the connection that it is on, and what was ahead of it there.
func TestWrittenAgainP2402(t *testing.T) {
	s := with(t, usual, 1, post("hello"))
	s.said(1, "headers 1", "data 1 hello")
	s.feeds(1, api.OK, away(0))
	s.c.Step()
	s.is(1, 1, 0, 0, 1, "")
	s.comes()
	s.c.Step()
	s.is(1, 2, 2, 1, 2, "") // written there, but not here
	s.lets(2, 0)
	s.feeds(2, api.OK, reset(1, api.CodeFlow))
	s.c.Step()
	s.is(1, 1, 0, 0, 2, "")
	s.lets(2, 1)
	s.c.Step()
	s.is(1, 2, 2, 3, 3, "")

	s = with(t, usual, 1, post("hello"), post("hello"))
	s.said(1, "headers 1", "data 1 hello", "headers 3", "data 3 hello")
	s.feeds(1, api.OK, reset(1, api.CodeRefused), reset(3, api.CodeRefused))
	s.c.Step()
	s.is(1, 2, 1, 5, 2, "") // on the same one, where much was taken
	s.is(2, 2, 1, 7, 2, "")
	if b := s.c.Take(1, 1); len(b) != 1 {
		t.Fatalf("Take: %q", b)
	}
	s.lets(1, 0)
	s.feeds(1, api.OK, reset(5, api.CodeFlow), reset(7, api.CodeFlow))
	s.c.Step()
	s.overBy(1, 1, 5, 2, api.ErrReset)
	s.is(2, 1, 0, 0, 2, "")
	s.waiting(2)
}

// What fails, and waits again, is forgotten: nothing of its first response is known.
func TestSettledForgetsP2402(t *testing.T) {
	s := with(t, usual, 1, get())
	s.hears(1)
	s.answers(1, 1, false, st("200"), fl("a", "b"))
	s.feeds(1, api.OK, data(1, of(60, "x")))
	s.gets(1, 200, fl("a", "b"))
	s.lets(1, 0)
	s.feeds(1, api.OK, reset(1, api.CodeFlow))
	s.gets(1, 200, fl("a", "b")) // till Step
	s.reads(1, 3, "xxx", api.OK)
	s.said(1, "settings 0")
	s.c.Step()
	s.said(1, "update 0 60") // it did not read them, and never will
	s.is(1, 1, 0, 0, 1, "")
	s.gets(1, 0)
	s.reads(1, 9, "", api.ErrState)
	if _, e := s.c.Pool().At(1).Info(1); e != api.ErrNone {
		t.Errorf("its first stream is known: %d", e)
	}
	s.lets(1, 6)
	s.c.Step()
	s.is(1, 2, 1, 3, 2, "")
	s.gets(1, 0)
	s.reads(1, 9, "", api.OK)
	s.answers(1, 3, false, st("404"))
	s.feeds(1, api.OK, dataEnd(3, "no"))
	s.c.Step()
	s.gets(1, 404)
	s.reads(1, 9, "no", api.OK)
	s.feeds(1, api.OK, reset(3, 1))
	s.c.Step()
	s.is(1, 3, 1, 3, 2, "")
}

// One that is over keeps its stream: what waits there waits till Drop.
func TestSettledKeepsP2402(t *testing.T) {
	s := with(t, usual, 1, post(""))
	s.hears(1)
	s.answers(1, 1, false, st("200"), fl("a", "b"))
	s.feeds(1, api.OK, data(1, of(60, "x")), reset(1, api.CodeFlow))
	s.c.Step()
	s.overBy(1, 1, 1, 1, api.ErrReset)
	s.gets(1, 200, fl("a", "b"))
	s.said(1)
	s.drops(1, true)
	s.said(1, "update 0 60")
	if _, e := s.c.Pool().At(1).Info(1); e != api.ErrNone {
		t.Errorf("its stream is known: %d", e)
	}
}

func TestCancelNoneP2402(t *testing.T) {
	s := made(t, usual)
	none := []int{0, -1, 1, 2, 1 << 32, -1 << 32, math.MaxInt, math.MinInt}
	s.unknown(none...)
	s.does(get())
	none = slices.DeleteFunc(none, func(id int) bool { return id == 1 })
	s.unknown(append(none, 1+1<<32)...)
	s.waiting(1)
}

func TestCancelWaitingP2402(t *testing.T) {
	for _, l := range [][]int{{1}, {2}, {4}, {1, 2}, {4, 3}, {2, 1, 4, 3}} {
		s := with(t, usual, 0, gots(4)...)
		stay := []int{1, 2, 3, 4}
		for _, id := range l {
			s.cancels(id, api.OK)
			s.is(id, 3, 0, 0, 0, "cancel")
			s.fails(id, api.ErrCancel, nil, api.ErrCancel)
			s.cancels(id, api.ErrClosed)
			stay = slices.DeleteFunc(stay, func(x int) bool { return x == id })
			s.waiting(stay...)
			s.reads(id, 1, "", api.ErrState)
			s.gets(id, 0)
		}
		for _, id := range stay {
			s.is(id, 1, 0, 0, 0, "")
		}
		s.comes()
		s.c.Step()
		for i, id := range stay {
			s.is(id, 2, 1, 2*i+1, 1, "")
		}
		for _, id := range l {
			s.is(id, 3, 0, 0, 0, "cancel")
			s.drops(id, true)
			s.unknown(id)
		}
	}
}

// One that waits again has its tries, and no stream.
func TestCancelWaitingAgainP2402(t *testing.T) {
	s := with(t, usual, 1, get(), post(""))
	s.lets(1, 0)
	s.feeds(1, api.OK, reset(1, api.CodeRefused), reset(3, api.CodeRefused))
	s.c.Step()
	s.waiting(1, 2)
	s.cancels(1, api.OK)
	s.is(1, 3, 0, 0, 1, "cancel")
	s.fails(1, api.ErrCancel, nil, api.ErrCancel) // not ErrMany
	s.waiting(2)
	s.misses()
	s.cancels(2, api.OK)
	s.is(2, 3, 0, 0, 2, "cancel")
	s.waiting()
}

// ending is one way to break a call off.
type ending struct {
	word string
	code api.Errno
	is   func(s *side, id int)
}

// endings tells both: by the caller, and by time (of a Config whose Time is 2, when a Tick went by).
func endings() []ending {
	return []ending{
		{"cancel", api.ErrCancel, func(s *side, id int) { s.t.Helper(); s.cancels(id, api.OK) }},
		{"late", api.ErrLate, func(s *side, id int) { s.t.Helper(); s.c.Tick() }},
	}
}

// What is under way and broken off tells so at once; on its stream goes one Reset, if it is not over, and what was not read is credited.
func TestBreakOffP2402(t *testing.T) {
	body := of(api.MaxBody, "b")
	for _, x := range []struct {
		what  string
		r     api.Request
		ahead func(s *side)
		said  []string
	}{
		{"nothing came", get(), func(s *side) {}, []string{"reset 1 8"}},
		{"nothing came of one that still sends", post(body), func(s *side) {}, []string{"reset 1 8"}},
		{"headers came", get(), func(s *side) { s.answers(1, 1, false, st("200")) }, []string{"reset 1 8"}},
		{"few bytes wait", get(), func(s *side) {
			s.answers(1, 1, false, st("200"))
			s.feeds(1, api.OK, data(1, of(49, "x")))
		}, []string{"reset 1 8"}},
		{"many bytes wait", get(), func(s *side) {
			s.answers(1, 1, false, st("200"))
			s.feeds(1, api.OK, data(1, of(50, "x")))
		}, []string{"reset 1 8", "update 0 50"}},
		{"some were read", get(), func(s *side) {
			s.answers(1, 1, false, st("200"))
			s.feeds(1, api.OK, data(1, of(60, "x")))
			s.reads(1, 20, of(20, "x"), api.OK)
		}, []string{"reset 1 8", "update 0 60"}},
		{"all were read", get(), func(s *side) {
			s.answers(1, 1, false, st("200"))
			s.feeds(1, api.OK, data(1, of(40, "x")))
			s.reads(1, 99, of(40, "x"), api.OK)
		}, []string{"reset 1 8"}},
		{"the server has ended", post(body), func(s *side) {
			s.answers(1, 1, false, st("200"))
			s.feeds(1, api.OK, dataEnd(1, of(60, "x")))
			s.c.Step()
		}, []string{"reset 1 8", "update 0 60"}},
		{"it is over, and Step did not see it", get(), func(s *side) {
			s.answers(1, 1, false, st("200"))
			s.feeds(1, api.OK, dataEnd(1, of(60, "x")))
		}, []string{"update 0 60"}},
		{"it is over, of several pieces", get(), func(s *side) {
			s.answers(1, 1, false, st("200"))
			s.feeds(1, api.OK, data(1, of(30, "x")), data(1, of(30, "y")), data(1, of(30, "z")), dataEnd(1, ""))
			s.reads(1, 35, of(30, "x")+of(5, "y"), api.OK)
		}, []string{"update 0 90"}},
		{"it is over, with nothing to read", get(), func(s *side) { s.answers(1, 1, true, st("200")) }, nil},
		{"it failed, and bytes wait", get(), func(s *side) {
			s.answers(1, 1, false, st("200"))
			s.feeds(1, api.OK, data(1, of(60, "x")), reset(1, api.CodeFlow))
		}, []string{"update 0 60"}},
		{"it was refused", get(), func(s *side) { s.feeds(1, api.OK, reset(1, api.CodeRefused)) }, nil},
		{"it failed here", get(), func(s *side) { s.feeds(1, api.OK, data(1, "")) }, []string{"reset 1 1"}},
		{"the server went away ahead of it", get(), func(s *side) { s.feeds(1, api.OK, away(0)) }, nil},
		{"the server goes away behind it", get(), func(s *side) { s.feeds(1, api.OK, away(1)) }, []string{"reset 1 8"}},
		{"the connection is broken", get(), func(s *side) { s.feeds(1, api.ErrProto, promise()) }, []string{"away 0"}},
		{"the connection is broken, and bytes wait", get(), func(s *side) {
			s.answers(1, 1, false, st("200"))
			s.feeds(1, api.OK, data(1, of(60, "x")))
			s.feeds(1, api.ErrProto, promise())
		}, []string{"away 0"}},
	} {
		for _, end := range endings() {
			c := usual
			c.Time = 2
			s := with(t, c, 1, x.r)
			s.hears(1)
			s.c.Tick()
			x.ahead(s)
			s.is(1, 2, 1, 1, 1, "")
			end.is(s, 1)
			s.is(1, 3, 1, 1, 1, end.word)
			s.fails(1, end.code, nil, end.code)
			if got := s.hears(1); !slices.Equal(got, x.said) {
				t.Errorf("%s, %s: said %q, not %q", x.what, end.word, got, x.said)
			}
			s.reads(1, 9, "", api.ErrState)
			s.cancels(1, api.ErrClosed)
			s.c.Tick()
			s.c.Step()
			s.is(1, 3, 1, 1, 1, end.word)
			s.drops(1, true)
			s.c.Step()
			if got := s.hears(1); len(got) != 0 {
				t.Errorf("%s, %s: behind it said %q", x.what, end.word, got)
			}
		}
	}
}

// What the connection knows of a stream that is broken off: why, and what waits there, which stays if the connection is broken by anything but ErrClosed.
func TestBreakOffStreamP2402(t *testing.T) {
	for _, x := range []struct {
		what  string
		ahead func(s *side)
		waits int
		err   [2]api.Errno
	}{
		{"open", func(s *side) {}, 0, [2]api.Errno{api.ErrCancel, api.ErrLate}},
		{"over", func(s *side) { s.feeds(1, api.OK, dataEnd(1, "")) }, 0, [2]api.Errno{}},
		{"failed", func(s *side) { s.feeds(1, api.OK, reset(1, api.CodeFlow)) }, 0, [2]api.Errno{api.ErrReset, api.ErrReset}},
		{"broken", func(s *side) { s.feeds(1, api.ErrProto, promise()) }, 70, [2]api.Errno{api.ErrDead, api.ErrDead}},
		{"closed", func(s *side) { s.c.Pool().At(1).Close() }, 0, [2]api.Errno{api.ErrDead, api.ErrDead}},
	} {
		for i, end := range endings() {
			c := usual
			c.Time = 2
			s := with(t, c, 1, get())
			s.c.Tick()
			s.answers(1, 1, false, st("200"))
			s.feeds(1, api.OK, data(1, of(35, "x")), data(1, of(35, "y")))
			x.ahead(s)
			end.is(s, 1)
			got, e := s.c.Pool().At(1).Info(1)
			if e != api.OK || !got.Over || got.Waits != x.waits || got.Err != x.err[i] {
				t.Errorf("%s, %s: %+v, %d", x.what, end.word, got, e)
			}
			s.drops(1, true)
			if _, e := s.c.Pool().At(1).Info(1); e != api.ErrNone {
				t.Errorf("%s, %s: known behind Drop: %d", x.what, end.word, e)
			}
		}
	}
}

// What was known of a response stays, of one that is broken off.
func TestCancelResponseP2402(t *testing.T) {
	s := with(t, usual, 1, get())
	s.answers(1, 1, false, st("200"), fl("a", "b"))
	s.cancels(1, api.OK)
	s.gets(1, 200, fl("a", "b"))
	s.drops(1, true)
	s.gets(1, 0)
}

// Others are as if it had not been.
func TestCancelOthersP2402(t *testing.T) {
	s := with(t, usual, 1, gots(9)...)
	s.hears(1)
	for id := 1; id < 12; id += 2 {
		s.answers(1, id, false, st("200"))
		s.feeds(1, api.OK, data(id, "body"))
	}
	s.cancels(3, api.OK)
	s.cancels(8, api.OK)
	s.cancels(5, api.OK)
	s.waiting(7, 9)
	s.c.Step()
	s.is(7, 2, 1, 13, 1, "")
	s.is(9, 2, 1, 15, 1, "")
	s.is(8, 3, 0, 0, 0, "cancel")
	for _, id := range []int{1, 2, 4, 6} {
		s.is(id, 2, 1, 2*id-1, 1, "")
		s.reads(id, 9, "body", api.OK)
		s.feeds(1, api.OK, dataEnd(2*id-1, "more"))
	}
	s.c.Step()
	for _, id := range []int{1, 2, 4, 6} {
		s.is(id, 3, 1, 2*id-1, 1, "")
		s.reads(id, 9, "more", api.OK)
	}
	s.said(1, "reset 5 8", "reset 9 8", "headers 13", "headers 15")
}

func TestTickP2402(t *testing.T) {
	c := usual
	c.Time = 3
	s := made(t, c)
	s.comes()
	s.lets(1, 2)
	s.does(get()) // 1
	s.c.Step()
	s.c.Tick()
	s.does(get()) // 2
	s.does(get()) // 3 waits, 4 too
	s.does(get())
	s.c.Step()
	s.c.Tick()
	s.does(get()) // 5
	s.is(1, 2, 1, 1, 1, "")
	s.hears(1)
	s.c.Tick()
	s.is(1, 3, 1, 1, 1, "late")
	s.said(1, "reset 1 8")
	s.is(2, 2, 1, 3, 1, "")
	s.waiting(3, 4, 5)
	s.c.Tick() // two and three at one time, by their numbers
	s.is(2, 3, 1, 3, 1, "late")
	s.is(3, 3, 0, 0, 0, "late")
	s.is(4, 3, 0, 0, 0, "late")
	s.fails(4, api.ErrLate, nil, api.ErrLate)
	s.is(5, 1, 0, 0, 0, "")
	s.waiting(5)
	s.c.Step()
	s.is(5, 2, 1, 5, 1, "")
	s.c.Tick()
	s.is(5, 3, 1, 5, 1, "late")
	for id := range 5 {
		s.cancels(id+1, api.ErrClosed)
	}
}

// Several that are late at one Tick go by their numbers, not by those of their streams.
func TestTickOrderP2402(t *testing.T) {
	c := usual
	c.Time = 3
	s := with(t, c, 1, gots(3)...)
	s.hears(1)
	s.feeds(1, api.OK, reset(1, api.CodeRefused))
	s.c.Step()
	s.is(1, 2, 1, 7, 2, "")
	s.said(1, "headers 7")
	s.c.Tick()
	s.c.Tick()
	s.said(1)
	s.c.Tick()
	s.said(1, "reset 7 8", "reset 3 8", "reset 5 8")
}

// Its time goes on from its Do, however often it waits.
func TestTickAgainP2402(t *testing.T) {
	c := usual
	c.Time = 4
	s := with(t, c, 1, get())
	s.c.Tick()
	s.lets(1, 0)
	s.feeds(1, api.OK, reset(1, api.CodeRefused))
	s.c.Step()
	s.c.Tick()
	s.is(1, 1, 0, 0, 1, "")
	s.lets(1, 1)
	s.c.Step()
	s.is(1, 2, 1, 3, 2, "")
	s.c.Tick()
	s.lets(1, 0)
	s.feeds(1, api.OK, reset(3, api.CodeRefused))
	s.c.Step()
	s.is(1, 1, 0, 0, 2, "")
	s.c.Tick()
	s.is(1, 3, 0, 0, 2, "late")
	s.waiting()
}

// What is over has no time.
func TestTickOverP2402(t *testing.T) {
	c := usual
	c.Time = 3
	s := with(t, c, 1, get(), get(), get())
	s.answers(1, 1, false, st("200"))
	s.feeds(1, api.OK, dataEnd(1, "body"), reset(5, api.CodeCancel))
	s.c.Step()
	s.cancels(2, api.OK)
	for range 9 {
		s.c.Tick()
		s.is(1, 3, 1, 1, 1, "")
		s.is(2, 3, 1, 3, 1, "cancel")
		s.is(3, 3, 1, 5, 1, "call: cancel")
	}
	s.reads(1, 9, "body", api.OK)
}

// A Tick is the connections', too: one that does not answer breaks, and its calls wait again, or are late.
func TestTickConnsP2402(t *testing.T) {
	c := usual
	c.Conn.Every, c.Conn.Wait, c.Time = 2, 3, 9
	s := with(t, c, 1, get(), post(""))
	s.hears(1)
	s.c.Tick()
	s.said(1)
	s.c.Tick()
	s.said(1, "ping 0")
	s.feeds(1, api.OK, echo(1))
	s.c.Tick()
	s.c.Tick()
	s.said(1, "ping 0")
	s.c.Tick()
	s.c.Tick()
	s.is(1, 2, 1, 1, 1, "")
	s.c.Tick() // the third without an answer
	s.said(1, "away 0")
	s.feeds(1, api.ErrLate)
	s.is(1, 2, 1, 1, 1, "")
	s.conns(1)
	s.c.Step()
	s.is(1, 1, 0, 0, 1, "")
	s.is(2, 3, 1, 3, 1, "call: dead")
	s.conns()
	s.c.Tick()
	s.is(1, 1, 0, 0, 1, "")
	s.c.Tick()
	s.is(1, 3, 0, 0, 1, "late")
}

// One that is late at the Tick at which its connection breaks is late.
func TestTickBreaksP2402(t *testing.T) {
	c := usual
	c.Conn.Every, c.Conn.Wait, c.Time = 1, 1, 2
	s := with(t, c, 1, get())
	s.hears(1)
	s.c.Tick()
	s.does(get())
	s.c.Step()
	s.c.Tick()
	s.is(1, 3, 1, 1, 1, "late")
	s.is(2, 2, 1, 3, 1, "")
	s.said(1, "ping 0", "headers 3", "away 0") // and no Reset: it was broken ahead of it
	s.c.Step()
	s.is(2, 1, 0, 0, 1, "")
}
