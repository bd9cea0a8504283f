package conn

import (
	"fmt"
	"testing"

	"bywash/api"
	"bywash/block"
	"bywash/frame"
	"bywash/pack"
)

// The streams of a scene.
const (
	below   = 1  // below the first number: it was never given
	forgot  = 3  // it was forgotten
	over    = 5  // it is known
	open    = 7  // it is open, with three bytes of a response
	sending = 9  // it is open on both sides, with a body that waits for its window
	later   = 11 // it was not given yet
	even    = 4
)

// What is known of a scene's streams at first.
var (
	overInfo = Info{Status: 404, Done: true, Over: true}
	openInfo = Info{Status: 200, Waits: 3}
)

// scene is a connection with a stream of each sort, all of what it said being taken.
func scene(t *testing.T) *side {
	t.Helper()
	s := met(t, Config{100, 3, 5, 5}, pf(api.PrefWindow, 10))
	s.opens(get("/"), forgot)
	s.opens(get("/"), over)
	s.opens(get("/"), open)
	s.opens(post(of(12, "x"), fl("t", "u")), sending)
	s.answers(api.OK, forgot, true, st("200"))
	s.forgets(forgot, true)
	s.answers(api.OK, over, true, st("404"))
	s.answers(api.OK, open, false, st("200"))
	s.feeds(api.OK, data(open, "abc"))
	s.says()
	s.isScene()
	return s
}

// isScene holds that nothing of a scene has changed.
func (s *side) isScene() {
	s.t.Helper()
	s.said()
	s.stands(2, true, false, api.OK)
	s.unknown(below, forgot, later, even, 0)
	s.knows(over, overInfo)
	s.knows(open, openInfo)
	s.knows(sending, Info{})
}

// isBroken holds all that a scene tells behind what broke it.
func (s *side) isBroken(code int, e api.Errno) {
	s.t.Helper()
	s.said(saysAway(code))
	for range 2 {
		s.stands(0, false, s.c.Gone(), e)
		s.unknown(below, forgot, later, even, 0)
		s.knows(over, overInfo)
		s.knows(open, Info{Status: 200, Waits: 3, Over: true, Err: api.ErrDead})
		s.ends(sending, api.ErrDead)
		s.feeds(e)
		s.feeds(e, settings(), update(0, 100), asks("12345678"), data(open, "x"), data(later, "x"))
		s.ticks(e)
		s.cancels(open, api.OK, e)
		s.cancels(later, api.OK, e)
		s.refuses(get("/"), e)
		s.c.Close()
	}
	s.reads(open, 9, "abc", api.OK)
	s.reads(open, 9, "", api.ErrDead)
	s.forgets(sending, true)
	s.forgets(open, true)
	s.unknown(open, sending)
	s.said()
}

// breaks holds that frames break a scene.
func breaks(t *testing.T, code int, e api.Errno, l ...api.Frame) {
	t.Helper()
	s := scene(t)
	s.feeds(e, l...)
	s.isBroken(code, e)
}

// fails holds that frames make the open stream fail, with nothing else behind it than what is said then.
func fails(t *testing.T, code int, e api.Errno, l ...api.Frame) {
	t.Helper()
	s := scene(t)
	s.feeds(api.OK, l...)
	s.isFailed(code, e)
}

func (s *side) isFailed(code int, e api.Errno) {
	s.t.Helper()
	s.said(saysReset(open, code))
	s.knows(open, Info{Status: 200, Over: true, Err: e})
	s.reads(open, 9, "", e)
	s.stands(1, true, false, api.OK)
	s.cancels(open, api.OK, api.ErrClosed)
	s.feeds(api.OK, data(open, "x"), update(open, 1), update(open, 0), reset(open, 1))
	s.said()
	s.knows(open, Info{Status: 200, Over: true, Err: e})
	s.knows(sending, Info{})
	s.knows(over, overInfo)
}

// nothing holds that frames change nothing of a scene, but for what is said.
func nothing(t *testing.T, said []string, l ...api.Frame) {
	t.Helper()
	s := scene(t)
	s.feeds(api.OK, l...)
	s.said(said...)
	s.isScene()
	s.feeds(api.OK, update(sending, 5))
	s.said(saysData(sending, "xx"), fmt.Sprintf("headers 5 %d t=u", sending))
}

// heads tells a block's frames, of a table of its own.
func heads(id int, end bool, l ...api.Field) []api.Frame {
	cut, _ := block.Cut(id, pack.NewPacker().Pack(l...), end, 64)
	return cut
}

func TestSceneP1903(t *testing.T) {
	nothing(t, nil)
	s := scene(t)
	s.c.Close()
	s.isBroken(api.CodeNone, api.ErrClosed)
}

func TestFramesOfStream0P1903(t *testing.T) {
	for _, kind := range []int{api.Data, api.Headers, api.Priority, api.Reset, api.Promise, api.Continue} {
		breaks(t, api.CodeProtocol, api.ErrProto, api.Frame{Kind: kind, Flags: api.Whole, Body: "12345"})
	}
	nothing(t, []string{saysAck}, settings())
	nothing(t, nil, settings2(api.Ack, ""))
	nothing(t, []string{"ping 1 0 \"abcdefgh\""}, asks("abcdefgh"))
	nothing(t, nil, echo("abcdefgh"))
	nothing(t, nil, api.Frame{Kind: 10, Body: "x"}, api.Frame{Kind: 255, Flags: 255}, api.Frame{Kind: 77})
	s := scene(t)
	s.feeds(api.OK, update(0, 1))
	s.isScene()
}

func settings2(flags int, b string) api.Frame {
	return api.Frame{Kind: api.Settings, Flags: flags, Body: b}
}

func TestFramesOfNoStreamThatWasP1903(t *testing.T) {
	for _, id := range []int{below, even, later, 2, 13, api.MaxIds, api.MaxIds - 1} {
		breaks(t, api.CodeProtocol, api.ErrProto, data(id, "x"))
		breaks(t, api.CodeProtocol, api.ErrProto, data(id, of(64, "x")), data(id, of(64, "x")))
		breaks(t, api.CodeProtocol, api.ErrProto, heads(id, true, st("200"))...)
		breaks(t, api.CodeProtocol, api.ErrProto, reset(id, 0))
		breaks(t, api.CodeProtocol, api.ErrProto, update(id, 1))
		breaks(t, api.CodeProtocol, api.ErrProto, update(id, 0))
		breaks(t, api.CodeProtocol, api.ErrProto, update(id, api.MaxWindow))
		nothing(t, nil, api.Frame{Kind: api.Priority, Id: id, Body: "12345"})
	}
}

func TestFramesOfAnyStreamP1903(t *testing.T) {
	for _, id := range []int{below, forgot, over, open, sending, later, even} {
		for _, kind := range []int{api.Promise, api.Continue, api.Settings, api.Ping, api.Away} {
			breaks(t, api.CodeProtocol, api.ErrProto, api.Frame{Kind: kind, Flags: api.Whole, Id: id, Body: "12345678"})
		}
		nothing(t, nil, api.Frame{Kind: api.Priority, Id: id, Body: "12345"})
		nothing(t, nil, api.Frame{Kind: 10, Id: id, Flags: 255, Body: of(64, "x")})
		nothing(t, nil, api.Frame{Kind: 255, Id: id})
	}
}

func TestFramesOfStreamsThatAreOverP1903(t *testing.T) {
	for _, id := range []int{forgot, over} {
		nothing(t, nil, heads(id, true, st("200"))...)
		nothing(t, nil, heads(id, false, fl("not", "right"))...)
		nothing(t, nil, heads(id, true)...)
		nothing(t, nil, reset(id, 0), reset(id, 7), reset(id, -1))
		nothing(t, nil, update(id, 0), update(id, 1), update(id, api.MaxWindow), update(id, api.MaxWindow))
		nothing(t, nil, data(id, of(40, "x")), dataEnd(id, ""))
		nothing(t, []string{saysUpdate(0, 50), saysUpdate(0, 64)}, data(id, of(40, "x")), dataEnd(id, of(10, "y")), padded(id, 30, of(33, "z")))
	}
	breaks(t, api.CodeFlow, api.ErrFlow, padded(open, 0, ""), data(over, of(48, "x")), data(sending, of(49, "x")))
}

func TestDataP1903(t *testing.T) {
	s := scene(t)
	s.feeds(api.OK, data(open, ""), data(open, "de"), padded(open, 0, ""), padded(open, 3, ""), padded(open, 3, "f"))
	s.knows(open, Info{Status: 200, Waits: 6})
	s.feeds(api.OK, dataEnd(open, "g"))
	s.knows(open, Info{Status: 200, Waits: 7, Done: true, Over: true})
	s.reads(open, 99, "abcdefg", api.OK)
	s.stands(1, true, false, api.OK)
	s = scene(t)
	s.feeds(api.OK, dataEnd(open, ""))
	s.knows(open, Info{Status: 200, Waits: 3, Done: true, Over: true})
	s = scene(t)
	f := padded(open, 5, "de")
	f.Flags |= api.End
	s.feeds(api.OK, f)
	s.knows(open, Info{Status: 200, Waits: 5, Done: true, Over: true})
	s.said()
	// Flags that Data has none of do not matter.
	s = scene(t)
	f = data(open, "d")
	f.Flags = 255 &^ (api.End | api.Padded)
	s.feeds(api.OK, f)
	s.knows(open, Info{Status: 200, Waits: 4})
}

// What is stripped is credited at once: of the stream first, if the server may send more on it.
func TestPaddingIsCreditedP1903(t *testing.T) {
	s := answered(t, 20, "")
	s.feeds(api.OK, padded(1, 8, "a")) // nine bytes of it
	s.said()
	s.feeds(api.OK, padded(1, 0, "b")) // and the tenth
	s.said(saysUpdate(1, 10))
	s.feeds(api.OK, padded(1, 17, ""))
	s.said(saysUpdate(1, 18))
	s.feeds(api.OK, padded(1, 15, "")) // 10 and 18 and 16 are below 50
	s.said(saysUpdate(1, 16))
	s.feeds(api.OK, padded(1, 4, ""))
	s.said()
	s.feeds(api.OK, padded(1, 4, ""))
	s.said(saysUpdate(1, 10), saysUpdate(0, 54))
	s.reads(1, 9, "ab", api.OK)
	s.said()
	// With End there is no Update of the stream.
	s = answered(t, 20, "")
	f := padded(1, 18, "")
	f.Flags |= api.End
	s.feeds(api.OK, f)
	s.said()
	s = answered(t, 60, "")
	f = padded(1, 58, "")
	f.Flags |= api.End
	s.feeds(api.OK, f)
	s.said(saysUpdate(0, 59))
	// Nor while the request is still being sent.
	s = met(t, Config{20, 1, 5, 5})
	s.opens(post(of(150, "x")), 1)
	s.answers(api.OK, 1, false, st("200"))
	s.says()
	f = padded(1, 18, "")
	s.feeds(api.OK, f)
	s.said(saysUpdate(1, 19))
	f.Flags |= api.End
	s.feeds(api.OK, f)
	s.said()
	s.stands(1, true, false, api.OK)
}

func TestConnectionsWindowP1903(t *testing.T) {
	s := answered(t, 1000, of(64, "x"))
	s.feeds(api.OK, data(1, of(36, "x")))
	s.knows(1, Info{Status: 200, Waits: 100})
	s.feeds(api.OK, data(1, ""), dataEnd(1, ""))
	s.feeds(api.OK, data(1, "")) // it is over: nothing to credit
	s.said()
	s.feeds(api.ErrFlow, data(1, "x"))
	s.said(saysAway(api.CodeFlow))
	s.knows(1, Info{Status: 200, Waits: 100, Done: true, Over: true})
	s = answered(t, 1000, of(64, "x"))
	s.feeds(api.ErrFlow, data(1, of(37, "x")))
	s.said(saysAway(api.CodeFlow))
	s.knows(1, Info{Status: 200, Waits: 64, Over: true, Err: api.ErrDead})
	// Padding counts, too.
	s = answered(t, 1000, of(64, "x"))
	s.feeds(api.OK, padded(1, 30, of(5, "x")))
	s.knows(1, Info{Status: 200, Waits: 69})
	s = answered(t, 1000, of(64, "x"))
	s.feeds(api.ErrFlow, padded(1, 30, of(6, "x")))
	// Of all streams.
	s = answered(t, 1000, of(64, "x"))
	s.opens(get("/"), 3)
	s.answers(api.OK, 3, false, st("200"))
	s.feeds(api.OK, data(3, of(36, "x")))
	s.feeds(api.ErrFlow, data(3, "x"))
	// The connection's comes ahead of what the stream would tell.
	s = answered(t, 10, "")
	s.feeds(api.OK, data(1, ""), data(1, of(10, "x")))
	s.opens(get("/"), 3)
	s.says()
	s.feeds(api.OK, data(3, of(40, "x")))
	s.said(saysReset(3, api.CodeFlow))
	s = answered(t, 1000, of(60, "x"))
	s.feeds(api.OK, dataEnd(1, ""))
	s.opens(post(of(150, "x")), 3)
	s.answers(api.OK, 3, true, st("200"))
	s.says()
	s.feeds(api.ErrFlow, data(3, of(41, "x"))) // else ErrClosed
	s.said(saysAway(api.CodeFlow))
}

func TestStreamsWindowP1903(t *testing.T) {
	s := answered(t, 10, "abcde")
	s.feeds(api.OK, data(1, "fghij"))
	s.knows(1, Info{Status: 200, Waits: 10})
	s.feeds(api.OK, data(1, ""))
	s.said()
	s.feeds(api.OK, data(1, "k"))
	s.said(saysReset(1, api.CodeFlow))
	s.knows(1, Info{Status: 200, Over: true, Err: api.ErrFlow})
	s.reads(1, 5, "", api.ErrFlow)
	// Padding counts, too.
	s = answered(t, 10, "abcde")
	s.feeds(api.OK, padded(1, 3, "f"))
	s.knows(1, Info{Status: 200, Waits: 6})
	s = answered(t, 10, "abcde")
	s.feeds(api.OK, padded(1, 3, "fg"))
	s.said(saysReset(1, api.CodeFlow))
	// Each has its own.
	s = answered(t, 10, of(10, "x"))
	s.opens(get("/"), 3)
	s.answers(api.OK, 3, false, st("200"))
	s.feeds(api.OK, data(3, of(10, "y")))
	s.says()
	s.feeds(api.OK, data(3, "z"))
	s.said(saysReset(3, api.CodeFlow))
	s.knows(1, Info{Status: 200, Waits: 10})
	// It goes ahead of what the response would tell.
	s = met(t, Config{10, 1, 5, 5})
	s.opens(get("/"), 1)
	s.says()
	s.feeds(api.OK, data(1, of(11, "x")))
	s.said(saysReset(1, api.CodeFlow))
	s.ends(1, api.ErrFlow)
}

// First what waits is credited, then what came.
func TestCreditsOfAStreamThatFailsP1903(t *testing.T) {
	s := answered(t, 50, of(50, "x"))
	s.feeds(api.OK, data(1, of(50, "y")))
	s.said(saysReset(1, api.CodeFlow), saysUpdate(0, 50), saysUpdate(0, 50))
	s = answered(t, 49, of(49, "x"))
	s.feeds(api.OK, data(1, of(51, "y")))
	s.said(saysReset(1, api.CodeFlow), saysUpdate(0, 100))
	s = answered(t, 49, of(25, "x"))
	s.feeds(api.OK, data(1, of(25, "y")))
	s.said(saysReset(1, api.CodeFlow), saysUpdate(0, 50))
	s = answered(t, 49, of(25, "x"))
	s.reads(1, 20, of(20, "x"), api.OK)
	s.feeds(api.OK, data(1, of(25, "y")))
	s.said(saysReset(1, api.CodeFlow), saysUpdate(0, 50))
	// Of another length than was said.
	s = met(t, Config{100, 1, 5, 5})
	s.opens(get("/"), 1)
	s.answers(api.OK, 1, false, st("200"), fl("content-length", "60"))
	s.feeds(api.OK, data(1, of(55, "x")))
	s.says()
	s.feeds(api.OK, padded(1, 30, of(6, "x")))
	s.said(saysReset(1, api.CodeProtocol), saysUpdate(0, 55))
	s.opens(get("/"), 3)
	s.says()
	s.feeds(api.OK, data(3, of(14, "x"))) // 37 and 14 of one that had no response yet
	s.said(saysReset(3, api.CodeProtocol), saysUpdate(0, 51))
	// By headers.
	s = answered(t, 100, of(50, "x"))
	s.answers(api.OK, 1, false, fl("t", "u"))
	s.said(saysReset(1, api.CodeProtocol), saysUpdate(0, 50))
	s.knows(1, Info{Status: 200, Over: true, Err: api.ErrProto})
	// By an Update.
	s = answered(t, 100, of(50, "x"))
	s.feeds(api.OK, update(1, 0))
	s.said(saysReset(1, api.CodeProtocol), saysUpdate(0, 50))
	s.knows(1, Info{Status: 200, Over: true, Err: api.ErrProto})
}

func TestLengthOfABodyP1903(t *testing.T) {
	said := func(n string, end bool) *side {
		t.Helper()
		s := plain(t)
		s.opens(get("/"), 1)
		s.answers(api.OK, 1, end, st("200"), fl("content-length", n))
		return s
	}
	is := func(s *side, status, waits int, done, over bool, e api.Errno) {
		t.Helper()
		i, _ := s.c.Info(1)
		if i.Status != status || i.Waits != waits || i.Done != done || i.Over != over || i.Err != e {
			t.Errorf("Info told %+v", i)
		}
	}
	s := said("3", false)
	s.feeds(api.OK, data(1, "ab"), dataEnd(1, "c"))
	is(s, 200, 3, true, true, api.OK)
	s = said("3", false)
	s.feeds(api.OK, data(1, "ab"), data(1, "c"))
	is(s, 200, 3, false, false, api.OK)
	s.answers(api.OK, 1, true, fl("t", "u"))
	is(s, 200, 3, true, true, api.OK)
	s = said("3", false)
	s.feeds(api.OK, data(1, "ab"), data(1, "cd"))
	is(s, 200, 0, false, true, api.ErrLength)
	s.said(saysHead(1, 5, "/"), saysReset(1, api.CodeProtocol))
	s = said("3", false)
	s.feeds(api.OK, data(1, "ab"), dataEnd(1, ""))
	is(s, 200, 0, false, true, api.ErrLength)
	s.said(saysHead(1, 5, "/"), saysReset(1, api.CodeProtocol)) // both sides had ended
	s = said("3", false)
	s.feeds(api.OK, data(1, "ab"))
	s.answers(api.OK, 1, true, fl("t", "u"))
	is(s, 200, 0, false, true, api.ErrLength)
	s = said("3", true)
	is(s, 0, 0, false, true, api.ErrLength)
	s = said("0", true)
	is(s, 200, 0, true, true, api.OK)
	s = said("x", true)
	is(s, 0, 0, false, true, api.ErrForm)
	// The body alone counts, without its padding.
	s = said("3", false)
	s.feeds(api.OK, padded(1, 20, "abc"))
	is(s, 200, 3, false, false, api.OK)
	s.feeds(api.OK, padded(1, 3, "d"))
	is(s, 200, 0, false, true, api.ErrLength)
	// A HEAD's has none, whatever was said.
	s = plain(t)
	r := get("/")
	r.Method = "HEAD"
	s.opens(r, 1)
	s.answers(api.OK, 1, true, st("200"), fl("content-length", "3"))
	is(s, 200, 0, true, true, api.OK)
}

func TestHeadersP1903(t *testing.T) {
	s := plain(t)
	s.opens(get("/"), 1)
	s.opens(get("/"), 3)
	s.says()
	s.answers(api.OK, 3, false, st("200"), fl("a", "b"))
	s.answers(api.OK, 1, true, st("200"), fl("a", "b"))
	s.knows(1, Info{Status: 200, Fields: []api.Field{fl("a", "b")}, Done: true, Over: true})
	s.knows(3, Info{Status: 200, Fields: []api.Field{fl("a", "b")}})
	s.answers(api.OK, 3, true, fl("t", "u"))
	s.knows(3, Info{Status: 200, Fields: []api.Field{fl("a", "b")}, Trailers: []api.Field{fl("t", "u")}, Done: true, Over: true})
	s.said()
	s.stands(0, true, false, api.OK)
}

func TestHeadersThatMayNotBeP1903(t *testing.T) {
	wrong := func(e api.Errno, end bool, l ...api.Field) {
		t.Helper()
		s := scene(t)
		s.feeds(api.OK, data(open, ""))
		s.answers(api.OK, sending, end, l...)
		s.said(saysReset(sending, api.CodeProtocol))
		s.ends(sending, e)
		s.stands(1, true, false, api.OK)
		s.feeds(api.OK, update(sending, 100), update(0, 100))
		s.said() // sending stops there, too
		s.knows(open, openInfo)
	}
	for _, end := range []bool{false, true} {
		wrong(api.ErrForm, end)
		wrong(api.ErrForm, end, fl("a", "b"))
		wrong(api.ErrForm, end, st("99"))
		wrong(api.ErrForm, end, st("600"))
		wrong(api.ErrForm, end, st("200"), fl("a", " "))
		wrong(api.ErrName, end, st("200"), fl("A", "b"))
		wrong(api.ErrName, end, st("200"), fl("connection", "b"))
		wrong(api.ErrName, end, st("200"), fl(":path", "b"))
		wrong(api.ErrOrder, end, st("200"), st("200"))
		wrong(api.ErrOrder, end, fl("a", "b"), st("200"))
	}
	wrong(api.ErrProto, true, st("100"))
	trailers := func(e api.Errno, end bool, l ...api.Field) {
		t.Helper()
		s := scene(t)
		s.answers(api.OK, open, end, l...)
		s.isFailed(api.CodeProtocol, e)
	}
	trailers(api.ErrProto, false, fl("t", "u"))
	trailers(api.ErrProto, false, st("200"))
	trailers(api.ErrProto, false)
	trailers(api.ErrName, true, st("200"))
	trailers(api.ErrName, true, fl("T", "u"))
	trailers(api.ErrForm, true, fl("t", " "))
}

// Once the server has ended a stream, it may say nothing more of it.
func TestBehindTheServersEndP1903(t *testing.T) {
	ended := func() *side {
		t.Helper()
		s := scene(t)
		s.answers(api.OK, sending, true, st("200"))
		s.knows(sending, Info{Status: 200, Done: true})
		s.said()
		return s
	}
	s := ended()
	s.feeds(api.ErrClosed, data(sending, "x"))
	s.said(saysAway(api.CodeClosed))
	s.stands(0, false, false, api.ErrClosed)
	s.knows(sending, Info{Status: 200, Done: true, Over: true, Err: api.ErrDead})
	s = ended()
	s.feeds(api.ErrClosed, dataEnd(sending, ""))
	s.said(saysAway(api.CodeClosed))
	s = ended()
	s.answers(api.ErrClosed, sending, true, fl("t", "u"))
	s.said(saysAway(api.CodeClosed))
	s = ended()
	s.answers(api.ErrClosed, sending, false, st("200"))
	s.said(saysAway(api.CodeClosed))
	s = ended()
	s.answers(api.ErrClosed, sending, true, fl("T", "u")) // not ErrName
	s.said(saysAway(api.CodeClosed))
	s = ended()
	s.feeds(api.OK, update(sending, 2), api.Frame{Kind: api.Priority, Id: sending, Body: "12345"}) // these it may
	s.said(saysData(sending, "xx"), fmt.Sprintf("headers 5 %d t=u", sending))
	s.knows(sending, Info{Status: 200, Done: true, Over: true})
	s.stands(1, true, false, api.OK)
	s.feeds(api.OK, data(sending, "x")) // it is over now
	s.said()
	s.stands(1, true, false, api.OK)
}

func TestBlocksP1903(t *testing.T) {
	l := []api.Field{st("200"), fl("a", of(60, "Q")), fl("b", of(60, "Q"))}
	whole := pack.NewPacker().Pack(l...)
	part := func(kind, flags, a, z int) api.Frame {
		return api.Frame{Kind: kind, Flags: flags, Id: sending, Body: whole[a:z]}
	}
	n := len(whole)
	want := Info{Status: 200, Fields: l[1:]}
	for _, frames := range [][]api.Frame{
		{part(1, 0, 0, 64), part(9, 0, 64, 128), part(9, 4, 128, n)},
		{part(1, 0, 0, 0), part(9, 0, 0, 1), part(9, 0, 1, 1), part(9, 0, 1, 60), part(9, 0, 60, 120), part(9, 0, 120, n), part(9, 4, n, n)},
		{part(1, 0, 0, 64), part(9, 255-4, 64, 128), part(9, 255, 128, n)}, // flags of other kinds do not matter
	} {
		s := scene(t)
		s.packer = nil
		s.un = pack.NewUnpacker(512)
		for k, f := range frames {
			s.knows(sending, Info{})
			s.c.unpacker = pack.NewUnpacker(128) // the scene's own answers filled it
			s.feeds(api.OK, f)
			if k < len(frames)-1 {
				s.said()
			}
		}
		s.knows(sending, want)
		s.said()
	}
	// End counts at the first frame of a block, and does so when it is whole.
	s := scene(t)
	s.c.unpacker = pack.NewUnpacker(128)
	s.feeds(api.OK, part(1, api.End, 0, 64))
	s.knows(sending, Info{})
	s.feeds(api.OK, part(9, 0, 64, 128), part(9, 4, 128, n))
	s.knows(sending, Info{Status: 200, Fields: l[1:], Done: true})
	s = scene(t)
	s.c.unpacker = pack.NewUnpacker(128)
	s.feeds(api.OK, part(1, 0, 0, 64), part(9, api.End, 64, 128), part(9, api.Whole|api.End, 128, n))
	s.knows(sending, want)
	// Padding and a priority are no part of it, nor of any window.
	s = scene(t)
	s.c.unpacker = pack.NewUnpacker(128)
	f := part(1, api.Padded|api.Weighed, 0, 20)
	f.Body = "\x05" + "12345" + f.Body + "ppppp"
	s.feeds(api.OK, f, part(9, 0, 20, 84), part(9, 4, 84, n))
	s.knows(sending, want)
	s.said()
}

func TestFramesBetweenP1903(t *testing.T) {
	head := api.Frame{Kind: api.Headers, Id: open, Body: "\x87"}
	for _, f := range []api.Frame{
		data(open, "x"), data(later, "x"), heads(open, true)[0], heads(later, true)[0], reset(open, 1), settings(), settings2(1, ""),
		asks("12345678"), echo("12345678"), away(0, 0, ""), update(0, 1), update(open, 1),
		{Kind: api.Priority, Id: open, Body: "12345"}, {Kind: 10, Id: open}, {Kind: 255},
		{Kind: api.Continue, Flags: api.Whole, Id: sending}, {Kind: api.Continue, Id: later},
	} {
		breaks(t, api.CodeProtocol, api.ErrProto, head, f)
		breaks(t, api.CodeProtocol, api.ErrProto, head, api.Frame{Kind: api.Continue, Id: open}, f)
	}
	breaks(t, api.CodeSize, api.ErrSize, head, api.Frame{Kind: api.Reset, Id: open, Body: "123"}) // rule.Check is asked first
}

func TestBlockThatIsTooLongP1903(t *testing.T) {
	// 600 bytes may be: of 64 bytes each nine frames, and 24.
	block := func(more int) []api.Frame {
		l := []api.Frame{{Kind: api.Headers, Id: open, Body: of(64, "\x00")}}
		for range 8 {
			l = append(l, api.Frame{Kind: api.Continue, Id: open, Body: of(64, "\x00")})
		}
		return append(l, api.Frame{Kind: api.Continue, Id: open, Body: of(24+more, "\x00")})
	}
	s := scene(t)
	s.feeds(api.OK, block(0)...) // it may come, be it headers or not
	s.said()
	s.feeds(api.ErrPack, api.Frame{Kind: api.Continue, Flags: api.Whole, Id: open})
	s.isBroken(api.CodePack, api.ErrPack)
	breaks(t, api.CodeSize, api.ErrSize, block(1)...)
	breaks(t, api.CodeSize, api.ErrSize, append(block(0), api.Frame{Kind: api.Continue, Id: open, Body: "\x00"})...)
}

func TestHeadersThatCannotBeUnpackedP1903(t *testing.T) {
	for _, b := range []string{"\x80", "\xff", "\x00", "\x00\x01", "\x7f\xff", "\xff\xff\xff\xff\xff\xff\xff", "\x87\x20", "\x3f\x62", "\x20\x20\x20"} {
		for _, id := range []int{forgot, over, open, sending, below, later, even} { // whosever it is
			breaks(t, api.CodePack, api.ErrPack, api.Frame{Kind: api.Headers, Flags: api.Whole, Id: id, Body: b})
			breaks(t, api.CodePack, api.ErrPack, api.Frame{Kind: api.Headers, Id: id, Body: b}, api.Frame{Kind: api.Continue, Id: id, Flags: api.Whole})
		}
	}
	// The table may have FirstTable bytes, and no more.
	s := scene(t)
	s.feeds(api.OK, api.Frame{Kind: api.Headers, Flags: api.Whole, Id: sending, Body: "\x3f\x61\x87"}) // 31 and 97
	s.knows(sending, Info{Status: 200})
	// A list of more than MaxList is told so, too.
	l := []api.Field{st("200")}
	for range 12 {
		l = append(l, fl("a", of(20, "0")))
	}
	breaks(t, api.CodePack, api.ErrPack, heads(open, true, l...)...)
	breaks(t, api.CodePack, api.ErrPack, heads(later, true, l...)...)
}

// The table goes on by blocks of streams that nobody waits for.
func TestTableOfBlocksOfNobodyP1903(t *testing.T) {
	for _, id := range []int{forgot, over} {
		s := scene(t)
		s.answers(api.OK, id, true, st("200"), fl("new", "field"))
		s.answers(api.OK, sending, false, st("200"), fl("new", "field"))
		s.knows(sending, Info{Status: 200, Fields: []api.Field{fl("new", "field")}})
	}
}

func TestResetP1903(t *testing.T) {
	codes := map[int]api.Errno{
		api.CodeNone: api.ErrReset, api.CodeProtocol: api.ErrReset, 2: api.ErrReset, api.CodeFlow: api.ErrReset, api.CodeClosed: api.ErrReset,
		api.CodeSize: api.ErrReset, api.CodeRefused: api.ErrRefused, api.CodeCancel: api.ErrCancel, api.CodePack: api.ErrReset,
		10: api.ErrReset, 255: api.ErrReset, 256: api.ErrReset, 1 << 16: api.ErrReset, 1 << 31: api.ErrReset, 1<<32 - 1: api.ErrReset,
		7 << 8: api.ErrReset, 1<<31 + 8: api.ErrReset,
	}
	for code, e := range codes {
		s := scene(t)
		s.feeds(api.OK, reset(open, code))
		s.said()
		s.knows(open, Info{Status: 200, Waits: 3, Over: true, Err: e})
		s.stands(1, true, false, api.OK)
		s.cancels(open, api.OK, api.ErrClosed)
		s.feeds(api.OK, reset(open, api.CodeRefused)) // it is over
		s.reads(open, 9, "abc", api.OK)
		s.reads(open, 9, "", e)
		// Ahead of any response.
		s = scene(t)
		s.feeds(api.OK, reset(sending, code))
		s.ends(sending, e)
		s.feeds(api.OK, update(sending, 100), update(0, 100))
		s.said()
		s.knows(open, openInfo)
		// Behind all of it.
		s = scene(t)
		s.answers(api.OK, sending, false, st("200"))
		s.feeds(api.OK, dataEnd(sending, "xyz"), reset(sending, code))
		if code == api.CodeNone {
			e = api.OK
		}
		s.knows(sending, Info{Status: 200, Waits: 3, Done: true, Over: true, Err: e})
		s.said()
		s.reads(sending, 9, "xyz", api.OK)
		s.reads(sending, 9, "", e)
	}
}

func TestSettingsThatMayNotBeP1903(t *testing.T) {
	breaks(t, api.CodeProtocol, api.ErrProto, settings(pf(api.PrefPush, 1)))
	breaks(t, api.CodeProtocol, api.ErrProto, settings(pf(api.PrefMany, 1), pf(api.PrefPush, 2)))
	breaks(t, api.CodeProtocol, api.ErrProto, settings(pf(api.PrefFrame, 63)))
	breaks(t, api.CodeProtocol, api.ErrProto, settings(pf(api.PrefFrame, 1<<24)))
	breaks(t, api.CodeFlow, api.ErrFlow, settings(pf(api.PrefWindow, 1<<31)))
	breaks(t, api.CodeFlow, api.ErrFlow, settings(pf(api.PrefWindow, 1<<32-1), pf(api.PrefPush, 1)))
	breaks(t, api.CodeSize, api.ErrSize, settings2(0, "12345"))
	breaks(t, api.CodeSize, api.ErrSize, settings2(api.Ack, "123456"))
	nothing(t, []string{saysAck}, settings(pf(api.PrefPush, 0), pf(api.PrefList, 1), pf(7, 1), pf(0, 1), pf(1<<16-1, 1<<32-1)))
	nothing(t, nil, settings2(api.Ack, ""), settings2(255, ""))
	nothing(t, []string{saysAck, saysAck, saysAck}, settings(), settings2(255&^api.Ack, ""), settings())
}

func TestSettingsOfWindowsP1903(t *testing.T) {
	// The stream that sends has got ten bytes' window, which are gone.
	s := scene(t)
	s.feeds(api.OK, settings(pf(api.PrefWindow, 11)))
	s.said(saysAck, saysData(sending, "x"))
	s.feeds(api.OK, settings(pf(api.PrefWindow, 5))) // 6 smaller than nothing
	s.said(saysAck)
	s.feeds(api.OK, update(sending, 6))
	s.said()
	s.feeds(api.OK, update(sending, 1))
	s.said(saysData(sending, "x"), fmt.Sprintf("headers 5 %d t=u", sending))
	s.opens(post("abcdef"), later) // a new one has the new window
	s.said(saysHead(later, 4, "/p"), saysData(later, "abcde"))
	s.feeds(api.OK, settings(pf(api.PrefWindow, 50), pf(api.PrefWindow, 6))) // the last one counts, and once
	s.said(saysAck, saysDataEnd(later, "f"))
	// One that is beyond what may be, by what an Update let ahead.
	s = scene(t)
	s.feeds(api.OK, update(open, api.MaxWindow-20)) // it has 10
	s.feeds(api.OK, settings(pf(api.PrefWindow, 20)))
	s.said(saysAck, saysData(sending, "xx"), fmt.Sprintf("headers 5 %d t=u", sending))
	s.feeds(api.ErrFlow, settings(pf(api.PrefWindow, 21)))
	s.said(saysAway(api.CodeFlow))
	s.stands(0, false, false, api.ErrFlow)
	// Of one that is over it does not matter.
	s = scene(t)
	s.feeds(api.OK, update(open, api.MaxWindow-20), dataEnd(open, ""))
	s.feeds(api.OK, settings(pf(api.PrefWindow, 50)))
	s.stands(1, true, false, api.OK)
	s.feeds(api.OK, settings(pf(api.PrefWindow, api.MaxWindow)))
	s.stands(1, true, false, api.OK)
	// The connection's own stays.
	s = met(t, plainConfig, pf(api.PrefWindow, 1000))
	s.opens(post(of(150, "x")), 1)
	s.said(saysHead(1, 4, "/p"), saysData(1, of(64, "x")), saysData(1, of(36, "x")))
	s.feeds(api.OK, settings(pf(api.PrefWindow, 2000)))
	s.said(saysAck)
}

func TestSettingsOfAFrameP1903(t *testing.T) {
	s := met(t, plainConfig, pf(api.PrefWindow, 0))
	s.opens(post(of(300, "x")), 1)
	s.feeds(api.OK, settings(pf(api.PrefFrame, 100), pf(api.PrefWindow, 1000)))
	s.said(saysHead(1, 4, "/p"), saysAck, saysData(1, of(100, "x")))
	s.feeds(api.OK, settings(pf(api.PrefFrame, 64)), update(0, 70))
	s.said(saysAck, saysData(1, of(64, "x")), saysData(1, of(6, "x")))
	s.feeds(api.OK, settings(pf(api.PrefFrame, 1<<24-1)), update(0, 1000))
	s.said(saysAck, saysDataEnd(1, of(130, "x")))
}

func TestPingP1903(t *testing.T) {
	s := scene(t)
	s.feeds(api.OK, asks("abcdefgh"), asks(of(8, "\x00")), api.Frame{Kind: api.Ping, Flags: 255 &^ api.Ack, Body: of(8, "\xff")})
	s.said("ping 1 0 \"abcdefgh\"", fmt.Sprintf("ping 1 0 %q", of(8, "\x00")), fmt.Sprintf("ping 1 0 %q", of(8, "\xff")))
	s.isScene()
	s.feeds(api.OK, echo("abcdefgh"), echo(of(7, "\x00")+"\x01")) // nothing was asked
	s.isScene()
	breaks(t, api.CodeSize, api.ErrSize, asks("1234567"))
	breaks(t, api.CodeSize, api.ErrSize, echo("123456789"))
}

func TestAwayP1903(t *testing.T) {
	gone := func(last int, l ...int) {
		t.Helper()
		s := plain(t)
		for _, id := range []int{1, 3, 5} {
			s.opens(get("/"), id)
		}
		s.says()
		s.feeds(api.OK, away(last, api.CodeFlow, "why"))
		s.said()
		s.stands(3-len(l), false, true, api.OK)
		for _, id := range []int{1, 3, 5} {
			want := Info{}
			for _, x := range l {
				if x == id {
					want = Info{Over: true, Err: api.ErrGone}
				}
			}
			s.knows(id, want)
		}
		s.refuses(get("/"), api.ErrGone)
		s.refuses(get(""), api.ErrGone)
		s.ticks(api.OK)
		s.feeds(api.OK, asks("abcdefgh"))
		s.said("ping 1 0 \"abcdefgh\"") // it goes on
	}
	gone(0, 1, 3, 5)
	gone(1, 3, 5)
	gone(2, 3, 5)
	gone(3, 5)
	gone(4, 5)
	gone(5)
	gone(7)
	gone(api.MaxIds)
	gone(1<<31, 1, 3, 5) // the first bit does not count
	gone(1<<31+3, 5)
	gone(1<<32 - 1)
	breaks(t, api.CodeSize, api.ErrSize, api.Frame{Kind: api.Away, Body: "1234567"})
}

func TestBehindAwayP1903(t *testing.T) {
	s := scene(t)
	s.feeds(api.OK, away(open, 0, ""))
	s.said()
	s.ends(sending, api.ErrGone)
	s.knows(open, openInfo)
	s.knows(over, overInfo)
	s.reads(sending, 1, "", api.ErrGone)
	s.cancels(sending, api.OK, api.ErrClosed)
	s.feeds(api.OK, update(sending, 100), update(0, 1000), settings(pf(api.PrefWindow, 1000)))
	s.said(saysAck) // nothing of its body
	s.feeds(api.OK, data(sending, of(50, "x")))
	s.said(saysUpdate(0, 50))
	s.feeds(api.OK, dataEnd(open, "de"))
	s.reads(open, 9, "abcde", api.OK)
	s.stands(0, false, true, api.OK)
	// A second one may take more; the first one's stay.
	s = plain(t)
	for _, id := range []int{1, 3, 5} {
		s.opens(get("/"), id)
	}
	s.says()
	s.feeds(api.OK, away(3, 0, ""), away(1, 0, ""), away(5, 0, ""))
	s.knows(1, Info{})
	s.ends(3, api.ErrGone)
	s.ends(5, api.ErrGone)
	s.stands(1, false, true, api.OK)
	// What waits to be read stays.
	s = answered(t, 100, "abc")
	s.feeds(api.OK, away(0, 0, ""))
	s.knows(1, Info{Status: 200, Waits: 3, Over: true, Err: api.ErrGone})
	s.reads(1, 9, "abc", api.OK)
	s.reads(1, 9, "", api.ErrGone)
	s.said()
	// One that had ended by itself keeps its own end.
	s = scene(t)
	s.cancels(open, api.ErrLate, api.OK)
	s.feeds(api.OK, away(0, 0, ""))
	s.knows(open, Info{Status: 200, Over: true, Err: api.ErrLate})
	s.knows(over, overInfo)
	s.ends(sending, api.ErrGone)
}

func TestUpdateP1903(t *testing.T) {
	breaks(t, api.CodeProtocol, api.ErrProto, update(0, 0))
	breaks(t, api.CodeProtocol, api.ErrProto, update(0, 1<<31)) // the first bit does not count
	breaks(t, api.CodeFlow, api.ErrFlow, update(0, api.MaxWindow))
	breaks(t, api.CodeFlow, api.ErrFlow, update(0, 1<<32-1))
	breaks(t, api.CodeSize, api.ErrSize, api.Frame{Kind: api.Update, Body: "123"})
	breaks(t, api.CodeSize, api.ErrSize, api.Frame{Kind: api.Update, Id: later, Body: "12345"})
	fails(t, api.CodeProtocol, api.ErrProto, update(open, 0))
	fails(t, api.CodeProtocol, api.ErrProto, update(open, 1<<31))
	fails(t, api.CodeFlow, api.ErrFlow, update(open, api.MaxWindow))
	fails(t, api.CodeFlow, api.ErrFlow, update(open, api.MaxWindow-9)) // it has 10
	fails(t, api.CodeFlow, api.ErrFlow, update(open, api.MaxWindow-10), update(open, 1))
	// Just so much as may be: of the stream, and of the connection, which has sent ten of its hundred.
	nothing(t, nil, update(open, api.MaxWindow-10))
	nothing(t, nil, update(0, api.MaxWindow-90))
	breaks(t, api.CodeFlow, api.ErrFlow, update(0, api.MaxWindow-89))
	breaks(t, api.CodeFlow, api.ErrFlow, update(0, api.MaxWindow-90), update(0, 1))
	// With the first bit it is as without.
	s := scene(t)
	s.feeds(api.OK, update(sending, 1<<31+1))
	s.said(saysData(sending, "x"))
	// What was sent makes room.
	s = scene(t)
	s.feeds(api.OK, update(sending, api.MaxWindow))
	s.said(saysData(sending, "xx"), fmt.Sprintf("headers 5 %d t=u", sending))
	s.feeds(api.OK, update(sending, 2))
	s.said()
	s.knows(sending, Info{})
	s.feeds(api.OK, update(sending, 1)) // this side has ended, but it counts still
	s.said(saysReset(sending, api.CodeFlow))
	s.ends(sending, api.ErrFlow)
}

// An Update that makes one stream fail takes nothing from the others.
func TestUpdateThatFailsP1903(t *testing.T) {
	s := met(t, plainConfig, pf(api.PrefWindow, 0))
	s.opens(post("abc"), 1)
	s.opens(post("def"), 3)
	s.says()
	s.feeds(api.OK, update(1, 0), update(3, 2))
	s.said(saysReset(1, api.CodeProtocol), saysData(3, "de"))
	s.ends(1, api.ErrProto)
	s.stands(1, true, false, api.OK)
}

func TestFirstFrameP1903(t *testing.T) {
	first := func(code int, e api.Errno, l ...api.Frame) {
		t.Helper()
		s := begun(t, plainConfig)
		s.opens(get("/"), 1)
		s.c.Take(len(Preface))
		s.says()
		s.feeds(e, l...)
		if e != api.OK {
			s.said(saysAway(code))
			s.ends(1, api.ErrDead)
		}
		s.stands(s.c.Busy(), e == api.OK, false, e)
	}
	for _, f := range []api.Frame{
		settings2(api.Ack, ""), settings2(255, ""), data(1, "x"), data(3, "x"), heads(1, true, st("200"))[0], reset(1, 0), asks("12345678"), echo("12345678"),
		away(0, 0, ""), update(0, 1), update(0, 0), update(1, 1), {Kind: api.Priority, Id: 1, Body: "12345"}, {Kind: 10}, {Kind: 255, Id: 3},
		{Kind: api.Continue, Id: 1}, {Kind: api.Headers, Id: 1, Flags: api.Whole, Body: "\xff"},
	} {
		first(api.CodeProtocol, api.ErrProto, f)
		first(api.CodeProtocol, api.ErrProto, f, settings())
		first(api.CodeNone, api.OK, settings())
	}
	// rule.Check is asked ahead of it, and a length ahead of that.
	first(api.CodeSize, api.ErrSize, asks("1234567"))
	first(api.CodeSize, api.ErrSize, settings2(0, "1"))
	first(api.CodeSize, api.ErrSize, settings2(api.Ack, "123456"))
	first(api.CodeSize, api.ErrSize, data(0, of(65, "x")))
	first(api.CodeFlow, api.ErrFlow, settings(pf(api.PrefWindow, 1<<31)))
	// Behind the first one, an Ack and others may be.
	first(api.CodeNone, api.OK, settings(pf(api.PrefMany, 3)), settings2(api.Ack, ""), echo("12345678"), update(1, 1))
}

func TestRuleOfFramesP1903(t *testing.T) {
	for _, f := range []api.Frame{
		{Kind: api.Data, Id: open, Flags: api.Padded}, {Kind: api.Data, Id: later, Flags: api.Padded, Body: "\x01"},
		{Kind: api.Headers, Id: open, Flags: api.Padded | api.Whole, Body: "\x05abcd"}, {Kind: api.Promise, Id: 1, Body: "1234"},
	} {
		breaks(t, api.CodeProtocol, api.ErrProto, f)
	}
	for _, f := range []api.Frame{
		{Kind: api.Priority, Id: open, Body: "1234"}, {Kind: api.Priority, Id: later, Body: "123456"}, {Kind: api.Reset, Id: open, Body: "123"},
		{Kind: api.Reset, Id: later, Body: "12345"}, {Kind: api.Update, Id: even, Body: ""}, {Kind: api.Ping, Body: ""},
		{Kind: api.Away, Body: ""}, {Kind: api.Settings, Body: "1234567"}, {Kind: api.Headers, Id: open, Flags: api.Weighed | api.Whole, Body: "1234"},
	} {
		breaks(t, api.CodeSize, api.ErrSize, f)
	}
}

func TestLengthOfAFrameP1903(t *testing.T) {
	s := scene(t)
	s.feeds(api.OK, data(open, of(64, "x")))
	s.knows(open, Info{Status: 200, Waits: 67})
	breaks(t, api.CodeSize, api.ErrSize, data(open, of(65, "x")))
	breaks(t, api.CodeSize, api.ErrSize, api.Frame{Kind: 99, Body: of(65, "x")})
	for _, b := range []string{"\x00\x00\x41", "\x00\x01\x00", "\x01\x00\x00", "\xff\xff\xff", "\x00\x00\xff\x00\x00"} {
		s := scene(t)
		if e := s.c.Feed(b[:2]); e != api.OK {
			t.Errorf("%q: %d", b[:2], e)
		}
		s.isScene()
		if e := s.c.Feed(b[2:]); e != api.ErrSize {
			t.Errorf("%q: %d", b, e)
		}
		s.isBroken(api.CodeSize, api.ErrSize)
	}
	// What is ahead of it counts.
	s = scene(t)
	if e := s.c.Feed(bytesOfFrames(data(open, "d"), asks("abcdefgh")) + "\x00\x00\x41"); e != api.ErrSize {
		t.Errorf("Feed told %d", e)
	}
	s.knows(open, Info{Status: 200, Waits: 4, Over: true, Err: api.ErrDead})
	s.said("ping 1 0 \"abcdefgh\"", saysAway(api.CodeSize))
	// The server's Settings do not let it send longer ones.
	breaks(t, api.CodeSize, api.ErrSize, data(open, of(65, "x")), settings(pf(api.PrefFrame, 512)))
	s = scene(t)
	s.feeds(api.OK, settings(pf(api.PrefFrame, 512)))
	s.feeds(api.ErrSize, data(open, of(65, "x")))
}

// The first frame that breaks the connection is the last one that counts.
func TestBehindWhatBreaksP1903(t *testing.T) {
	s := scene(t)
	s.feeds(api.ErrProto, data(open, "d"), asks("abcdefgh"), update(0, 0), data(open, "e"), update(sending, 5), away(0, 0, ""), update(0, api.MaxWindow))
	s.said("ping 1 0 \"abcdefgh\"", saysAway(api.CodeProtocol))
	s.knows(open, Info{Status: 200, Waits: 4, Over: true, Err: api.ErrDead})
	s.stands(0, false, false, api.ErrProto)
	s.feeds(api.ErrProto, away(0, 0, ""))
	s.stands(0, false, false, api.ErrProto)
	// So in pieces: what is held goes.
	s = scene(t)
	all := bytesOfFrames(update(0, 0), data(open, "e"))
	if e := s.c.Feed(all[:12]); e != api.OK {
		t.Errorf("Feed told %d", e)
	}
	if e := s.c.Feed(all[12:]); e != api.ErrProto {
		t.Errorf("Feed told %d", e)
	}
	s.isBroken(api.CodeProtocol, api.ErrProto)
}

// talk is what a server may say on a scene, all of it taken.
func talk() string {
	b := ""
	for _, l := range [][]api.Frame{
		{settings(pf(api.PrefWindow, 11), pf(api.PrefFrame, 100)), settings2(api.Ack, ""), asks("abcdefgh"), padded(open, 60, "d")},
		{{Kind: api.Priority, Id: open, Body: "12345"}, {Kind: 200, Id: 3, Body: "zzz"}, update(0, 100), update(sending, 5)},
		{data(over, of(30, "x")), reset(forgot, 1)},
	} {
		b += bytesOfFrames(l...)
	}
	return b
}

func TestPiecesP1903(t *testing.T) {
	check := func(s *side) {
		t.Helper()
		s.said(saysAck, saysData(sending, "x"), "ping 1 0 \"abcdefgh\"",
			saysUpdate(open, 61), saysUpdate(0, 61),
			saysData(sending, "x"), fmt.Sprintf("headers 5 %d t=u", sending))
		s.knows(open, Info{Status: 200, Waits: 4})
		s.reads(open, 9, "abcd", api.OK)
		s.stands(2, true, false, api.OK)
	}
	all := talk()
	for size := 1; size <= len(all); size++ {
		s := scene(t)
		for at := 0; at < len(all); at += size {
			if e := s.c.Feed(all[at:min(at+size, len(all))]); e != api.OK {
				t.Fatalf("pieces of %d: Feed told %d", size, e)
			}
			if e := s.c.Feed(""); e != api.OK {
				t.Fatalf("pieces of %d: Feed told %d", size, e)
			}
		}
		check(s)
	}
	// A frame counts as soon as it is whole, and no byte earlier.
	s := scene(t)
	b := bytesOfFrames(asks("abcdefgh"))
	for k := range b {
		s.said()
		s.c.Feed(b[k : k+1])
	}
	s.said("ping 1 0 \"abcdefgh\"")
}

// The first bit of a frame's stream does not matter.
func TestFirstBitOfAStreamP1903(t *testing.T) {
	s := scene(t)
	b, _ := frame.Put(data(open, "d"))
	if e := s.c.Feed(b[:5] + string([]byte{b[5] | 128}) + b[6:]); e != api.OK {
		t.Errorf("Feed told %d", e)
	}
	s.knows(open, Info{Status: 200, Waits: 4})
}
