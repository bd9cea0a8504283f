package conn

import (
	"math"
	"testing"

	"bywash/api"
)

// answered is a connection with a stream 1 that is open on the server's side alone: its response's headers, and bytes that wait.
func answered(t *testing.T, window int, b string) *side {
	t.Helper()
	s := met(t, Config{window, 1, 5, 5})
	s.opens(get("/"), 1)
	s.answers(api.OK, 1, false, st("200"))
	s.says()
	if b != "" {
		s.feeds(api.OK, data(1, b))
		s.said()
	}
	return s
}

// errnos are all errors, and such as are none.
func errnos() []api.Errno {
	l := []api.Errno{-1, 24, 1000, math.MaxInt, math.MinInt}
	for e := api.ErrArg; e <= api.ErrMany; e++ {
		l = append(l, e)
	}
	return l
}

func TestCancelP1902(t *testing.T) {
	for _, err := range append(errnos(), api.OK) {
		want := err
		if err == api.OK {
			want = api.ErrCancel
		}
		s := plain(t)
		s.opens(get("/"), 1)
		s.opens(get("/"), 3)
		s.says()
		s.cancels(1, err, api.OK)
		s.said(saysReset(1, api.CodeCancel))
		s.ends(1, want)
		s.knows(3, Info{})
		s.stands(1, true, false, api.OK)
		s.reads(1, 1, "", want)
		s.cancels(1, err, api.ErrClosed)
		s.cancels(1, api.ErrLate, api.ErrClosed)
		s.said()
		s.ends(1, want)
	}
}

func TestCancelOfOthersP1902(t *testing.T) {
	s := plain(t)
	s.opens(get("/"), 1)
	s.opens(get("/"), 3)
	s.says()
	for _, id := range []int{0, -1, 2, 5, 7, math.MaxInt, math.MinInt} {
		s.cancels(id, api.ErrLate, api.ErrNone)
	}
	s.answers(api.OK, 1, true, st("200"))
	s.cancels(1, api.ErrLate, api.ErrClosed) // over without an error
	s.knows(1, Info{Status: 200, Done: true, Over: true})
	s.forgets(1, true)
	s.cancels(1, api.ErrLate, api.ErrNone)
	s.said()
	s.feeds(api.ErrProto, update(0, 0))
	s.says()
	for _, id := range []int{0, 1, 2, 3, 5} { // known, over or neither: Dead's error is ahead of all
		s.cancels(id, api.ErrLate, api.ErrProto)
	}
	s.ends(3, api.ErrDead)
	s.said()
}

// Behind a Cancel nothing of the stream's is sent any more, and others get what it would have had.
func TestCancelStopsABodyP1902(t *testing.T) {
	s := plain(t)
	s.opens(post(of(150, "x"), fl("t", "u")), 1)
	s.opens(post("abc"), 3)
	s.says()
	s.cancels(1, api.OK, api.OK)
	s.said(saysReset(1, api.CodeCancel)) // the connection's window is still empty
	s.feeds(api.OK, update(1, 100), update(0, 2))
	s.said(saysData(3, "ab"))
	s.feeds(api.OK, update(0, 200))
	s.said(saysDataEnd(3, "c"))
	s.ends(1, api.ErrCancel)
}

func TestCancelCreditsWhatWaitsP1902(t *testing.T) {
	s := answered(t, 100, of(49, "x"))
	s.cancels(1, api.ErrLate, api.OK)
	s.said(saysReset(1, api.CodeCancel)) // one byte below half a window
	s.knows(1, Info{Status: 200, Over: true, Err: api.ErrLate})
	s.reads(1, 99, "", api.ErrLate)
	s.feeds(api.OK, data(1, "y")) // and here is the byte
	s.said(saysUpdate(0, 50))
	s = answered(t, 100, of(50, "x"))
	s.cancels(1, api.OK, api.OK)
	s.said(saysReset(1, api.CodeCancel), saysUpdate(0, 50))
	s = answered(t, 100, of(60, "x"))
	s.reads(1, 30, of(30, "x"), api.OK)
	s.said()
	s.cancels(1, api.OK, api.OK)
	s.said(saysReset(1, api.CodeCancel), saysUpdate(0, 60))
	s.reads(1, 99, "", api.ErrCancel)
	s.forgets(1, true) // nothing of it waits any more
	s.said()
}

func TestCancelBehindTheResponseP1902(t *testing.T) {
	s := plain(t)
	s.opens(post(of(150, "x")), 1)
	s.answers(api.OK, 1, false, st("200"), fl("a", "b"))
	s.feeds(api.OK, dataEnd(1, "abc"))
	s.says()
	s.knows(1, Info{Status: 200, Fields: []api.Field{fl("a", "b")}, Waits: 3, Done: true})
	s.cancels(1, api.OK, api.OK) // it is not over: its own body is not sent
	s.said(saysReset(1, api.CodeCancel))
	s.knows(1, Info{Status: 200, Fields: []api.Field{fl("a", "b")}, Done: true, Over: true, Err: api.ErrCancel})
	s.reads(1, 3, "", api.ErrCancel)
}

func TestReadP1902(t *testing.T) {
	s := answered(t, 1000, "abcdefgh")
	waits := func(n int) { t.Helper(); s.knows(1, Info{Status: 200, Waits: n}) }
	for _, n := range []int{0, -1, -99, math.MinInt} {
		s.reads(1, n, "", api.OK)
		waits(8)
	}
	s.reads(1, 1, "a", api.OK)
	waits(7)
	s.reads(1, 3, "bcd", api.OK)
	waits(4)
	s.reads(1, 5, "efgh", api.OK)
	waits(0)
	for _, n := range []int{1, 0, -1, math.MaxInt} {
		s.reads(1, n, "", api.OK)
	}
	s.feeds(api.OK, data(1, "ij"), data(1, ""), data(1, "k"))
	s.reads(1, math.MaxInt, "ijk", api.OK)
	s.said()
}

func TestReadOfOneThatIsOverP1902(t *testing.T) {
	s := answered(t, 1000, "abc")
	s.feeds(api.OK, dataEnd(1, "de"))
	s.knows(1, Info{Status: 200, Waits: 5, Done: true, Over: true})
	s.reads(1, 4, "abcd", api.OK)
	s.reads(1, 0, "", api.OK)
	s.reads(1, 4, "e", api.OK)
	s.reads(1, 4, "", api.OK)
	s = answered(t, 1000, "abc")
	s.feeds(api.OK, reset(1, api.CodeRefused))
	s.knows(1, Info{Status: 200, Waits: 3, Over: true, Err: api.ErrRefused})
	s.reads(1, 0, "", api.OK)
	s.reads(1, 2, "ab", api.OK)
	s.reads(1, 2, "c", api.OK)
	s.reads(1, 2, "", api.ErrRefused)
	s.reads(1, 1, "", api.ErrRefused)
	s.reads(1, 0, "", api.OK) // no bytes were asked for
	s.reads(1, -1, "", api.OK)
	s = answered(t, 1000, "abc")
	s.feeds(api.ErrProto, update(0, 0))
	s.reads(1, 2, "ab", api.OK)
	s.reads(1, 2, "c", api.OK)
	s.reads(1, 2, "", api.ErrDead)
	s.reads(1, 0, "", api.OK)
}

func TestReadAtHalfAWindowP1902(t *testing.T) {
	// Of the stream's: 20 bytes; the connection's is 100 always.
	s := answered(t, 20, of(20, "x"))
	s.reads(1, 9, of(9, "x"), api.OK)
	s.said()
	s.reads(1, 1, "x", api.OK)
	s.said(saysUpdate(1, 10))
	s.reads(1, 10, of(10, "x"), api.OK)
	s.said(saysUpdate(1, 10))
	s.feeds(api.OK, data(1, of(20, "y"))) // all of it may come again
	s.reads(1, 20, of(20, "y"), api.OK)
	s.said(saysUpdate(1, 20))
	s.feeds(api.OK, data(1, of(20, "z")))
	s.reads(1, 9, of(9, "z"), api.OK)
	s.said() // 49 of the connection's
	s.reads(1, 1, "z", api.OK)
	s.said(saysUpdate(1, 10), saysUpdate(0, 50))
	// Of the connection's: a stream's window that is greater.
	s = answered(t, 1000, of(64, "x"))
	s.reads(1, 49, of(49, "x"), api.OK)
	s.said()
	s.reads(1, 1, "x", api.OK)
	s.said(saysUpdate(0, 50))
	s.reads(1, 14, of(14, "x"), api.OK)
	s.said()
}

// The stream's Update goes ahead of the connection's.
func TestOrderOfUpdatesP1902(t *testing.T) {
	s := answered(t, 100, of(60, "x"))
	s.reads(1, 60, of(60, "x"), api.OK)
	s.said(saysUpdate(1, 60), saysUpdate(0, 60))
}

// Windows of one byte, of two and of three: half of them is at least one.
func TestReadOfSmallWindowsP1902(t *testing.T) {
	for _, window := range []int{1, 2, 3} {
		s := answered(t, window, "")
		for range 40 {
			s.feeds(api.OK, data(1, "x"))
			s.reads(1, 1, "x", api.OK)
			s.said(saysUpdate(1, 1))
		}
	}
	s := answered(t, 4, "abcd")
	s.reads(1, 1, "a", api.OK)
	s.said()
	s.reads(1, 1, "b", api.OK)
	s.said(saysUpdate(1, 2))
}

// An odd window's half is a whole number.
func TestReadOfAnOddWindowP1902(t *testing.T) {
	s := answered(t, 21, of(20, "x"))
	s.reads(1, 9, of(9, "x"), api.OK)
	s.said()
	s.reads(1, 1, "x", api.OK)
	s.said(saysUpdate(1, 10))
}

// Behind the response's end the server may send nothing on the stream: only the connection is credited.
func TestReadBehindTheEndP1902(t *testing.T) {
	s := met(t, Config{20, 1, 5, 5})
	s.opens(post(of(150, "x")), 1) // it stays open, for its own body is not sent
	s.answers(api.OK, 1, false, st("200"))
	s.feeds(api.OK, dataEnd(1, of(20, "x")))
	s.says()
	s.reads(1, 20, of(20, "x"), api.OK)
	s.said()
	s = met(t, Config{20, 1, 5, 5})
	s.opens(get("/"), 1)
	s.answers(api.OK, 1, false, st("200"))
	s.feeds(api.OK, dataEnd(1, of(20, "x")))
	s.says()
	s.reads(1, 20, of(20, "x"), api.OK)
	s.said()
	s = answered(t, 60, of(60, "x"))
	s.feeds(api.OK, dataEnd(1, ""))
	s.reads(1, 50, of(50, "x"), api.OK)
	s.said(saysUpdate(0, 50))
	// While the server may send, its own body does not matter.
	s = met(t, Config{20, 1, 5, 5})
	s.opens(post(of(150, "x")), 1)
	s.answers(api.OK, 1, false, st("200"))
	s.feeds(api.OK, data(1, of(20, "x")))
	s.says()
	s.reads(1, 20, of(20, "x"), api.OK)
	s.said(saysUpdate(1, 20))
}

// On a connection that is broken, what waits is read, and nothing is sent.
func TestReadOnABrokenConnectionP1902(t *testing.T) {
	s := answered(t, 60, of(60, "x"))
	s.c.Close()
	s.said(saysAway(api.CodeNone))
	s.knows(1, Info{Status: 200, Waits: 60, Over: true, Err: api.ErrDead})
	s.reads(1, 55, of(55, "x"), api.OK)
	s.forgets(1, true)
	s.unknown(1)
	s.said()
}

func TestInfoP1902(t *testing.T) {
	s := plain(t)
	s.opens(post(of(150, "x")), 1)
	s.says()
	s.knows(1, Info{})
	s.answers(api.OK, 1, false, st("103"), fl("a", "b")) // ahead of the response's
	s.knows(1, Info{})
	s.answers(api.OK, 1, false, st("204"), fl("b", "c"), fl("a", ""), fl("b", "d"))
	i := Info{Status: 204, Fields: []api.Field{fl("b", "c"), fl("a", ""), fl("b", "d")}}
	s.knows(1, i)
	s.feeds(api.OK, data(1, "abc"))
	i.Waits = 3
	s.knows(1, i)
	s.reads(1, 1, "a", api.OK)
	i.Waits = 2
	s.knows(1, i)
	s.answers(api.OK, 1, true, fl("t", "u"), fl("t", "v"))
	i.Trailers, i.Done = []api.Field{fl("t", "u"), fl("t", "v")}, true
	s.knows(1, i)
	s.stands(1, true, false, api.OK)
	s.feeds(api.OK, reset(1, api.CodeCancel))
	i.Over, i.Err = true, api.ErrCancel
	s.knows(1, i)
	s.stands(0, true, false, api.OK)
	s.reads(1, 9, "bc", api.OK)
	i.Waits = 0
	s.knows(1, i)
	s.unknown(0, -1, 2, 3)
}

// What was answered stays, and what is done to it changes nothing.
func TestWhatInfoToldP1902(t *testing.T) {
	s := plain(t)
	s.opens(get("/"), 1)
	s.answers(api.OK, 1, false, st("200"), fl("a", "b"))
	a, _ := s.c.Info(1)
	s.feeds(api.OK, data(1, "abc"))
	s.answers(api.OK, 1, true, fl("t", "u"))
	if !sameInfo(a, Info{Status: 200, Fields: []api.Field{fl("a", "b")}}) {
		t.Errorf("what was told is now %+v", a)
	}
	want := Info{Status: 200, Fields: []api.Field{fl("a", "b")}, Trailers: []api.Field{fl("t", "u")}, Waits: 3, Done: true, Over: true}
	b, _ := s.c.Info(1)
	b.Fields[0], b.Trailers[0] = fl("x", "y"), fl("x", "y")
	a.Fields[0] = fl("z", "z")
	_ = append(b.Fields, fl("v", "w"))
	s.knows(1, want)
	s.forgets(1, true)
	if b.Fields[0] != fl("x", "y") || b.Trailers[0] != fl("x", "y") {
		t.Errorf("what was told is now %+v", b)
	}
}

func TestForgetP1902(t *testing.T) {
	s := plain(t)
	s.opens(get("/"), 1)
	s.opens(post(of(150, "x")), 3)
	s.opens(get("/"), 5)
	s.says()
	for _, id := range []int{0, -1, 1, 2, 3, 5, 7, math.MaxInt, math.MinInt} {
		s.forgets(id, false)
	}
	s.knows(1, Info{})
	s.answers(api.OK, 1, true, st("200"))
	s.answers(api.OK, 3, true, st("200")) // it sends still
	s.forgets(3, false)
	s.forgets(1, true)
	s.unknown(1)
	s.forgets(1, false)
	s.knows(3, Info{Status: 200, Done: true})
	s.cancels(5, api.OK, api.OK)
	s.forgets(5, true)
	s.unknown(1, 5)
	s.stands(1, true, false, api.OK)
	s.opens(get("/"), 7)
	s.said(saysReset(5, api.CodeCancel), saysHead(7, 5, "/"))
}

func TestForgetCreditsWhatWaitsP1902(t *testing.T) {
	for _, x := range []struct {
		n, read int
		want    []string
	}{
		{0, 0, nil}, {49, 0, nil}, {50, 0, []string{saysUpdate(0, 50)}}, {60, 0, []string{saysUpdate(0, 60)}},
		{50, 49, []string{saysUpdate(0, 50)}}, {50, 50, nil}, {49, 49, nil},
	} {
		s := answered(t, 1000, of(x.n, "x"))
		s.feeds(api.OK, dataEnd(1, ""))
		if x.read > 0 {
			s.reads(1, x.read, of(x.read, "x"), api.OK)
		}
		s.says()
		s.forgets(1, true)
		s.said(x.want...)
	}
	// Of one that the server broke off, too.
	s := answered(t, 1000, of(60, "x"))
	s.feeds(api.OK, reset(1, api.CodeFlow))
	s.said()
	s.forgets(1, true)
	s.said(saysUpdate(0, 60))
	s.forgets(1, false)
	s.said()
}

// What is owed of several streams is owed by the connection in one.
func TestCreditsOfSeveralStreamsP1902(t *testing.T) {
	s := plain(t)
	for _, id := range []int{1, 3, 5} {
		s.opens(get("/"), id)
		s.answers(api.OK, id, false, st("200"))
		s.feeds(api.OK, data(id, of(30, "x")))
	}
	s.says()
	s.reads(1, 20, of(20, "x"), api.OK)
	s.reads(3, 20, of(20, "x"), api.OK)
	s.said()
	s.cancels(5, api.OK, api.OK)
	s.said(saysReset(5, api.CodeCancel), saysUpdate(0, 70))
	s.reads(1, 10, of(10, "x"), api.OK)
	s.reads(3, 10, of(10, "x"), api.OK)
	s.said()
	s.feeds(api.OK, data(1, of(50, "y"))) // 100 less 90 and 70 more: 80
	s.feeds(api.OK, data(3, of(30, "y")))
	s.stands(2, true, false, api.OK)
	s.feeds(api.ErrFlow, data(3, "y"))
}
