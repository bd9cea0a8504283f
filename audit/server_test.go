package audit

import (
	"slices"
	"testing"

	"bywash/api"
	"bywash/conn"
)

// writing is an auditor of a client that has stream 1 open for writing, and of a server that lets much be sent on all.
func writing(t *testing.T) *side {
	t.Helper()
	s := begun(t)
	s.hears(update(0, 10000))
	s.asks(api.OK, 1, false, get("/")...)
	return s
}

// left holds how much may be sent on stream 1: so many bytes, and not one more.
func (s *side) left(n int) {
	s.t.Helper()
	s.sends(api.OK, 1, n)
	s.says(api.ErrFlow, data(1, "x"))
}

func TestFrameAndManyWaitP2002(t *testing.T) {
	f := func(n int) api.Frame { return settings(pf(api.PrefFrame, n)) }
	s := begun(t)
	s.hears(f(100))
	s.says(api.OK, other(100))
	s.hears(f(80))
	s.says(api.OK, other(100))
	s.hears(f(90))
	s.says(api.OK, other(100), ack(), other(100), ack(), other(90), ack(), other(90))
	s.says(api.ErrSize, other(91))
	s = begun(t)
	s.hears(f(100), f(80), f(90))
	s.says(api.OK, ack(), ack(), other(90)) // 80 was acked, 90 waits
	s.says(api.ErrSize, other(91))
	s = begun(t)
	s.hears(f(100), f(64))
	s.says(api.OK, ack(), ack(), other(64))
	s.says(api.ErrSize, other(65))

	many := func(n int) api.Frame { return settings(pf(api.PrefMany, n)) }
	opens := func(s *side, n int) {
		t.Helper()
		for k := range n {
			s.asks(api.OK, 2*k+1, true, get("/")...)
		}
		s.asks(api.ErrProto, 2*n+1, true, get("/")...)
		s.broke(api.ErrProto)
	}
	for _, c := range []struct{ said, lets int }{{0, 0}, {1, 1}, {5, 5}, {6, 6}, {7, 6}, {1<<32 - 1, 6}} {
		s = begun(t)
		s.hears(many(c.said))
		opens(s, 6) // what was there at first counts until the Ack
		s = begun(t)
		s.hears(many(c.said))
		s.says(api.OK, ack())
		opens(s, c.lets)
	}
	s = begun(t)
	s.hears(many(1), many(3), many(2))
	s.says(api.OK, ack())
	opens(s, 3)
	s = begun(t)
	s.hears(many(1), many(3), many(2))
	s.says(api.OK, ack(), ack(), ack())
	opens(s, 2)
	s = begun(t)
	s.hears(many(2), many(4))
	s.says(api.OK, ack())
	s.hears(many(1))
	s.says(api.OK, ack())
	opens(s, 4)
	// One that is open stays so, whatever is let be.
	s = begun(t)
	for k := range 4 {
		s.asks(api.OK, 2*k+1, false, get("/")...)
	}
	s.hears(many(2))
	s.says(api.OK, ack())
	s.has(4, 1, 3, 5, 7)
	s.asks(api.OK, 3, true, fl("t", "u"))
	s.says(api.OK, reset(1), reset(5))
	s.says(api.ErrProto, heading(9, 0, ""))
}

// Each of those that wait is as it is behind those ahead of it; what one does not name stays.
func TestOneBehindTheOtherP2002(t *testing.T) {
	s := begun(t)
	s.hears(settings(pf(api.PrefFrame, 200)), settings(pf(api.PrefMany, 1)), settings())
	s.says(api.OK, ack(), ack(), ack(), other(200))
	s.asks(api.OK, 1, true, get("/")...)
	s.says(api.ErrProto, heading(3, 0, ""))
	s = begun(t)
	s.hears(settings(pf(api.PrefFrame, 200)), settings(pf(api.PrefMany, 1)))
	s.says(api.OK, ack(), ack())
	s.says(api.ErrSize, other(201))
	// Within one of them the last one counts.
	s = begun(t)
	s.hears(settings(pf(api.PrefFrame, 200), pf(api.PrefFrame, 100), pf(api.PrefWindow, 7), pf(api.PrefWindow, 3)))
	s.says(api.OK, other(100))
	s.asks(api.OK, 1, false, get("/")...)
	s.left(3)
	s = begun(t)
	s.hears(settings(pf(api.PrefFrame, 200), pf(api.PrefFrame, 100)))
	s.says(api.ErrSize, other(101))
}

func TestWindowsAtOnceP2002(t *testing.T) {
	w := func(n int) api.Frame { return settings(pf(api.PrefWindow, n)) }
	for _, acks := range []int{0, 1} {
		for _, n := range []int{0, 1, 64, 100, 101, 300} {
			s := writing(t) // one that was open ahead of it
			s.hears(w(n))
			for range acks {
				s.says(api.OK, ack())
			}
			s.left(n)
			s.broke(api.ErrFlow)
			s = begun(t) // and one that is opened behind it
			s.hears(update(0, 10000), w(n))
			for range acks {
				s.says(api.OK, ack())
			}
			s.asks(api.OK, 1, false, get("/")...)
			s.left(n)
		}
	}
	// What was sent is gone: 30 of 50, then of 80, then of 20.
	s := writing(t)
	s.hears(w(50))
	s.sends(api.OK, 1, 30)
	s.hears(w(80))
	s.left(50)
	s = writing(t)
	s.sends(api.OK, 1, 30)
	s.hears(w(20)) // ten less than nothing
	s.hears(update(1, 15))
	s.left(5)
	s = writing(t)
	s.sends(api.OK, 1, 30)
	s.hears(w(20))
	s.says(api.ErrFlow, data(1, ""))
	s = writing(t)
	s.sends(api.OK, 1, 30)
	s.hears(w(20), w(0), w(35))
	s.left(5)
	// An Ack changes nothing of them.
	s = writing(t)
	s.hears(w(50), w(80))
	s.says(api.OK, ack())
	s.sends(api.OK, 1, 60)
	s.says(api.OK, ack())
	s.left(20)
	// The connection's is none of Settings.
	s = begun(t)
	s.asks(api.OK, 1, false, get("/")...)
	s.hears(w(1000))
	s.left(100)
	// From the Headers on, though the block is not whole.
	s = begun(t)
	s.hears(update(0, 10000), w(40))
	cut := s.heads(1, false, get("/"+of(100, "\xff"))...)
	s.says(api.OK, cut[0])
	s.hears(w(30), update(1, 7))
	s.says(api.OK, cut[1:]...)
	s.left(37)
}

func TestWindowBeyondP2002(t *testing.T) {
	// Of one stream it would be beyond, and stays; of the other one, and of new ones, it counts, and so does the rest.
	s := begun(t)
	s.hears(update(0, 1<<30))
	s.asks(api.OK, 1, false, get("/")...)
	s.asks(api.OK, 3, false, get("/")...)
	s.sends(api.OK, 3, 10)
	s.hears(update(1, 1)) // 101, of which 1<<31 - 101 more are beyond by one
	s.hears(settings(pf(api.PrefWindow, api.MaxWindow), pf(api.PrefFrame, 512)))
	s.sends(api.OK, 1, 101)
	s.says(api.OK, ack())
	for range 3 {
		s.says(api.OK, data(3, of(512, "x")))
	}
	s.asks(api.OK, 5, false, get("/")...)
	s.says(api.OK, data(5, of(512, "x")))
	s.says(api.ErrFlow, data(1, "x"))
	// Just up to the end it counts.
	s = begun(t)
	s.hears(update(0, 1<<30))
	s.asks(api.OK, 1, false, get("/")...)
	s.hears(settings(pf(api.PrefWindow, api.MaxWindow), pf(api.PrefFrame, 512)))
	s.says(api.OK, data(1, of(512, "x")))
	// A later one is by the difference to this one.
	s = begun(t)
	s.hears(update(0, 1<<30))
	s.asks(api.OK, 1, false, get("/")...)
	s.asks(api.OK, 3, false, get("/")...)
	s.hears(update(1, api.MaxWindow-200), settings(pf(api.PrefWindow, 250)), settings(pf(api.PrefWindow, 200)))
	s.sends(api.OK, 3, 200)
	s.says(api.ErrFlow, data(3, "x"))
}

func TestTableAtOnceP2002(t *testing.T) {
	l := get("/", fl("k", of(60, "v")))
	// What a client packs by its own table is taken, whatever the Settings were, acked or not.
	for _, sizes := range [][]int{{0}, {64}, {128}, {129}, {512}, {513}, {1<<32 - 1}, {0, 512}, {512, 0}, {300, 40, 300}, {0, 0, 1000}} {
		s := begun(t)
		s.packer.Limit(200)
		s.asks(api.OK, 1, true, l...)
		for _, n := range sizes {
			s.hears(settings(pf(api.PrefTable, n)))
			s.packer.Limit(n)
		}
		s.asks(api.OK, 3, true, l...)
		for range sizes {
			s.says(api.OK, ack())
		}
		s.asks(api.OK, 5, true, l...)
		s.asked(3, l, "")
		s.asked(5, l, "")
	}
	// One that does not know of them yet goes on with what it had.
	s := begun(t)
	s.asks(api.OK, 1, true, l...)
	s.hears(settings(pf(api.PrefTable, 0)))
	s.asks(api.OK, 3, true, l...)
	s.asked(3, l, "")
}

func TestWrongSettingsP2002(t *testing.T) {
	for _, f := range []api.Frame{
		ack(),
		{Kind: api.Settings, Flags: api.Ack, Body: settings(pf(api.PrefWindow, 5)).Body},
		{Kind: api.Settings, Id: 1, Body: settings(pf(api.PrefWindow, 5)).Body},
		{Kind: api.Settings, Body: settings(pf(api.PrefWindow, 5)).Body + "x"},
		{Kind: api.Settings, Flags: 256, Body: settings(pf(api.PrefWindow, 5)).Body},
		settings(pf(api.PrefWindow, 5), pf(api.PrefPush, 1)),
		settings(pf(api.PrefFrame, 63), pf(api.PrefWindow, 5)),
		settings(pf(api.PrefFrame, 512), pf(api.PrefWindow, 1<<31)),
		settings(pf(api.PrefWindow, 5), pf(api.PrefFrame, 1<<24)),
	} {
		s := writing(t)
		s.hears(f)
		s.says(api.ErrProto, ack())
		s = writing(t)
		s.hears(f)
		s.left(100)
		s = writing(t)
		s.hears(f)
		s.says(api.ErrSize, other(65))
		// Those that are right count, ahead of it and behind it.
		s = writing(t)
		s.hears(settings(pf(api.PrefWindow, 20)), f, settings(pf(api.PrefMany, 1)))
		s.says(api.OK, ack(), ack())
		s.says(api.ErrProto, heading(3, 0, ""))
		s = writing(t)
		s.hears(settings(pf(api.PrefWindow, 20)), f, settings(pf(api.PrefMany, 1)))
		s.left(20)
	}
	s := writing(t)
	s.hears(settings(pf(api.PrefPush, 0)), settings(pf(99, 7)), settings(pf(api.PrefList, 0)), api.Frame{Kind: api.Settings, Flags: 254})
	s.says(api.OK, ack(), ack(), ack(), ack())
	s.left(100)
}

func TestUpdatesP2002(t *testing.T) {
	s := begun(t)
	s.asks(api.OK, 1, false, get("/")...)
	s.hears(settings(pf(api.PrefWindow, 1000)), update(0, 1), update(0, 30))
	s.left(131)
	s.broke(api.ErrFlow)
	s = writing(t)
	s.hears(update(1, 1), update(1, 30))
	s.left(131)
	// Those that do nothing.
	for _, f := range []api.Frame{
		update(1, 0), update(3, 50), update(2, 50), update(api.MaxIds, 50), update(1, api.MaxWindow), update(1, api.MaxWindow-99), update(1, 1<<31), update(-1, 50),
		{Kind: api.Update, Id: 1, Body: "\x00\x00\x05"}, {Kind: api.Update, Id: 1, Body: "\x00\x00\x00\x05\x00"}, {Kind: api.Update, Id: 1}, {Kind: api.Update, Flags: -1, Id: 1, Body: number4(5)},
	} {
		s = writing(t)
		s.hears(f)
		s.left(100)
	}
	for _, f := range []api.Frame{update(0, 0), update(0, api.MaxWindow), update(0, api.MaxWindow-99), update(0, 1<<31), {Kind: api.Update, Body: "\x00\x00\x05"}, {Kind: api.Update}} {
		s = begun(t)
		s.asks(api.OK, 1, false, get("/")...)
		s.hears(settings(pf(api.PrefWindow, 1000)), f)
		s.left(100)
	}
	// Just up to the end; the first bit does not count.
	s = begun(t)
	s.hears(settings(pf(api.PrefFrame, 512), pf(api.PrefWindow, 100)))
	s.asks(api.OK, 1, false, get("/")...)
	s.hears(update(0, api.MaxWindow-100), update(1, api.MaxWindow-100))
	s.says(api.OK, data(1, of(512, "x")))
	s.hears(update(1, 512), update(1, 1), update(0, 512), update(0, 1))
	s.says(api.OK, data(1, of(512, "x")))
	s = writing(t)
	s.hears(update(1, 1<<31|5))
	s.left(105)
	// A stream's is the stream's alone, and not kept for one that is opened later.
	s = writing(t)
	s.hears(update(3, 50))
	s.asks(api.OK, 3, false, get("/")...)
	s.hears(update(3, 5))
	s.sends(api.OK, 3, 105)
	s.left(100)
	s.has(2, 1, 3)
}

func TestServersEndP2002(t *testing.T) {
	for _, end := range []api.Frame{
		last(data(1, "")), last(data(1, "abc")), last(heading(1, 0, "")), last(heading(1, api.Whole, "\x87")), last(padded(data(1, "abc"), 3)), last(heading(1, api.Weighed, "12345")), heading(1, 255-api.Padded, "12345"),
	} {
		// Ahead of the client's end it is open, and goes on being written.
		s := writing(t)
		s.hears(end)
		s.has(1, 1)
		s.sends(api.OK, 1, 5)
		s.hears(end, end)
		s.has(1, 1)
		s.says(api.OK, last(data(1, "x")))
		s.has(0, 1)
		s.asked(1, get("/"), "dddddx")
		s.says(api.ErrClosed, data(1, ""))
		// Behind it it is closed.
		s = writing(t)
		s.says(api.OK, last(data(1, "x")))
		s.has(1, 1)
		s.hears(end)
		s.has(0, 1)
		s.hears(end, reset(1), update(1, 5))
		s.has(0, 1)
		s.says(api.OK, reset(1), update(1, 5))
		s = begun(t)
		s.asks(api.OK, 1, true, get("/")...)
		s.hears(end)
		s.has(0, 1)
		// Trailers end on this side when they are whole.
		s = writing(t)
		s.hears(end)
		cut := s.heads(1, true, fl("t", of(90, "\xff")))
		s.says(api.OK, cut[0])
		s.has(1, 1)
		s.says(api.OK, cut[1])
		s.has(0, 1)
		s = writing(t)
		cut = s.heads(1, true, fl("t", of(90, "\xff")))
		s.says(api.OK, cut[0])
		s.hears(end)
		s.has(1, 1)
		s.says(api.OK, cut[1])
		s.has(0, 1)
		// A request that is not whole is open from its Headers on, and closed on this side, if it ends there.
		s = begun(t)
		cut = s.heads(1, true, get("/"+of(90, "\xff"))...)
		s.says(api.OK, cut[0])
		s.has(1, 1)
		s.hears(end)
		s.has(0, 1)
		s.says(api.OK, cut[1])
		s.has(0, 1)
		s.asked(1, get("/"+of(90, "\xff")), "")
	}
	for _, f := range []api.Frame{data(1, "abc"), heading(1, api.Whole, "\x87"), continued(1, 255, ""), priority(1), last(priority(1)), update(1, 1), last(update(1, 1)), last(promise(1)), away(0), asking(), last(other(5))} {
		s := begun(t)
		s.asks(api.OK, 1, true, get("/")...)
		s.hears(f)
		s.has(1, 1)
	}
}

func TestServersResetP2002(t *testing.T) {
	for _, ahead := range []func(s *side){
		func(*side) {},
		func(s *side) { s.says(api.OK, last(data(1, "x"))) },
		func(s *side) { s.hears(last(data(1, "x"))) },
		func(s *side) { s.says(api.OK, reset(1)) },
	} {
		s := writing(t)
		ahead(s)
		s.hears(reset(1))
		s.has(0, 1)
		s.hears(reset(1), last(data(1, "")), settings(pf(api.PrefWindow, 5)))
		s.has(0, 1)
		s.says(api.OK, update(1, 5), reset(1))
		s.says(api.ErrClosed, data(1, ""))
	}
	s := writing(t)
	s.asks(api.OK, 3, true, get("/")...)
	s.hears(reset(5), reset(2), reset(0), api.Frame{Kind: api.Reset, Id: 1, Body: "123"})
	s.has(2, 1, 3)
	s.hears(reset(3))
	s.has(1, 1, 3)
	s.asks(api.OK, 5, true, get("/")...) // what was told ahead of it is no matter
	s.has(2, 1, 3, 5)
	// In the middle of a block the block goes on, and the rest of it is held to the rules.
	s = writing(t)
	cut := s.heads(1, true, fl("t", of(90, "\xff")))
	s.says(api.OK, cut[0])
	s.hears(reset(1))
	s.has(0, 1)
	s.says(api.OK, cut[1])
	s.has(0, 1)
	s.asked(1, get("/"), "", fl("t", of(90, "\xff")))
}

func TestNothingElseP2002(t *testing.T) {
	for _, f := range []api.Frame{
		away(0), away(1), away(api.MaxIds), {Kind: api.Away, Body: "1234567"}, asking(), last(asking()), priority(1), promise(1), promise(2), other(3), other(600), continued(1, api.Whole|api.End, ""),
		// what rule.Check refuses
		last(data(0, "")), last(heading(0, api.Whole, "")), {Kind: api.Reset, Id: 1, Body: "12345"}, {Kind: api.Reset, Body: "1234"},
		last(api.Frame{Kind: api.Data, Flags: api.Padded, Id: 1}), last(api.Frame{Kind: api.Data, Flags: api.Padded, Id: 1, Body: "\x03ab"}),
		last(heading(1, api.Weighed, "1234")), last(heading(1, api.Padded, "")), {Kind: api.Data, Flags: 257, Id: 1}, {Kind: api.Reset, Flags: -1, Id: 1, Body: "1234"},
		{Kind: -1, Id: 1}, {Kind: 256, Id: 1}, {Kind: api.Data, Flags: 1, Id: -1}, {Kind: api.Data, Flags: 1, Id: api.MaxIds + 1}, {Kind: api.Data, Flags: 1, Id: 1, Body: of(1<<24, "x")},
	} {
		s := begun(t)
		s.asks(api.OK, 1, true, get("/")...)
		s.asks(api.OK, 3, false, get("/")...)
		s.hears(f)
		s.has(2, 1, 3)
		s.asked(1, get("/"), "")
		s.holds(0)
		s.says(api.OK, other(64))
		for id := 5; id < 13; id += 2 {
			s.asks(api.OK, id, true, get("/")...) // nobody went away
		}
		s.sends(api.OK, 3, 100)
		s.says(api.ErrFlow, data(3, "x"))
	}
	// A great frame is one like others.
	s := writing(t)
	s.hears(last(data(1, of(1<<20, "x"))))
	s.says(api.OK, last(data(1, "")))
	s.has(0, 1)
}

// What the server says counts whatever came of the client.
func TestServerFirstP2002(t *testing.T) {
	s := fresh(t)
	s.hears(settings(pf(api.PrefWindow, 7), pf(api.PrefMany, 1)), update(0, 1000), reset(1), last(data(1, "")), update(1, 9))
	s.has(0)
	s.tells(api.OK, conn.Preface[:5])
	s.hears(settings(pf(api.PrefWindow, 9)))
	s.tells(api.OK, conn.Preface[5:])
	s.says(api.OK, settings(), ack(), ack())
	s.asks(api.OK, 1, false, get("/")...)
	s.has(1, 1)
	s.left(9)
}

func TestOpenedP2002(t *testing.T) {
	s := fresh(t)
	s.has(0)
	s.tells(api.OK, conn.Preface)
	s.has(0)
	s.says(api.OK, settings())
	s.has(0)
	s.asks(api.OK, 3, true, get("/")...)
	s.has(1, 3)
	s.asks(api.OK, 9, false, get("/")...)
	s.asks(api.OK, 11, true, get("/")...)
	s.has(3, 3, 9, 11)
	s.says(api.OK, reset(9))
	s.has(2, 3, 9, 11)
	s.hears(last(data(3, "")))
	s.has(1, 3, 9, 11)
	s.asks(api.OK, 15, true, get("/")...)
	s.has(2, 3, 9, 11, 15)
	s.hears(away(0))
	s.has(2, 3, 9, 11, 15)
}

func TestAskedP2002(t *testing.T) {
	s := begun(t)
	s.unasked(1, 0, -1, 2, api.MaxIds)
	cut := s.heads(1, false, get("/"+of(90, "\xff"), fl("a", "b"), fl("a", "b"))...)
	s.says(api.OK, cut[0])
	s.asked(1, nil, "") // it was opened, and nothing of it came
	b := bytesOf(cut[1])
	s.tells(api.OK, b[:len(b)-1])
	s.asked(1, nil, "")
	s.tells(api.OK, b[len(b)-1:])
	l := get("/"+of(90, "\xff"), fl("a", "b"), fl("a", "b"))
	s.asked(1, l, "")
	s.unasked(3, 0)
	s.says(api.OK, data(1, "ab"))
	s.asked(1, l, "ab")
	s.says(api.OK, padded(data(1, "cde"), 9), data(1, ""), padded(data(1, ""), 0))
	s.asked(1, l, "abcde")
	d := bytesOf(data(1, "xyz"))
	s.tells(api.OK, d[:len(d)-1])
	s.asked(1, l, "abcde")
	s.tells(api.OK, d[len(d)-1:])
	s.asked(1, l, "abcdexyz")
	s.asks(api.OK, 3, false, get("/3")...)
	s.says(api.OK, data(3, "three"), data(1, "!"))
	tail := s.heads(1, true, fl("t", of(90, "\xff")), fl("t", ""))
	s.says(api.OK, tail[0])
	s.asked(1, l, "abcdexyz!")
	s.says(api.OK, tail[1])
	s.asked(1, l, "abcdexyz!", fl("t", of(90, "\xff")), fl("t", ""))
	s.asked(3, get("/3"), "three")
	s.says(api.OK, last(data(3, "\x00\xff")), reset(1))
	s.hears(reset(3))
	s.asked(1, l, "abcdexyz!", fl("t", of(90, "\xff")), fl("t", ""))
	s.asked(3, get("/3"), "three\x00\xff")
	s.unasked(5, 2)
	s.has(0, 1, 3)
}

func TestHeldP2002(t *testing.T) {
	s := fresh(t)
	s.holds(0)
	for i := range len(conn.Preface) - 1 {
		s.tells(api.OK, conn.Preface[i:i+1])
		s.holds(i + 1)
	}
	s.tells(api.OK, conn.Preface[len(conn.Preface)-1:])
	s.holds(0)
	b := bytesOf(settings(pf(api.PrefWindow, 5)))
	for i := range len(b) - 1 {
		s.tells(api.OK, b[i:i+1])
		s.holds(i + 1)
	}
	s.tells(api.OK, b[len(b)-1:]+b[:3])
	s.holds(3)
	s.tells(api.OK, "")
	s.holds(3)
	s.tells(api.OK, b[3:]+b+b[:9])
	s.holds(9)
	s.hears(settings(), update(0, 5))
	s.holds(9)
	s.tells(api.OK, b[9:])
	s.holds(0)
	cut := s.heads(1, true, get("/"+of(90, "\xff"))...)
	s.says(api.OK, cut[0])
	s.holds(0) // a block that is not whole is no frame that is not
	s = fresh(t)
	s.tells(api.OK, conn.Preface+b+b[:1])
	s.holds(1)
}

func TestNilP2002(t *testing.T) {
	for _, a := range []*Auditor{nil, {}} {
		s := &side{t: t, a: a}
		for _, b := range []string{"", "x", conn.Preface, conn.Preface + bytesOf(settings())} {
			s.tells(api.ErrState, b)
		}
		for _, f := range []api.Frame{settings(pf(api.PrefFrame, 100)), update(0, 5), update(1, 5), reset(1), last(data(1, "")), {Kind: -1}} {
			s.hears(f)
		}
		s.tells(api.ErrState, "")
		s.has(0)
		s.unasked(0, 1, 3)
		s.holds(0)
	}
	if New() == nil || New() == New() {
		t.Error("New: nil, or twice the same")
	}
}

// What is done to one auditor does not change another.
func TestSideBySideP2002(t *testing.T) {
	a, b := begun(t), begun(t)
	a.asks(api.OK, 1, false, get("/a")...)
	b.asks(api.OK, 1, true, get("/b")...)
	a.hears(settings(pf(api.PrefFrame, 100)), update(0, 100), update(1, 100))
	a.says(api.OK, other(100), ack())
	a.sends(api.OK, 1, 200)
	a.asks(api.OK, 3, true, get("/x", fl("k", "v"))...)
	a.asks(api.OK, 1, true, fl("t", "u"))
	a.hears(reset(3))
	a.has(1, 1, 3)
	b.has(1, 1)
	b.asked(1, get("/b"), "")
	b.unasked(3)
	b.tells(api.OK, "\x00")
	a.holds(0)
	b.tells(api.ErrSize, "\x00\x41")
	a.tells(api.OK, "")
	a.asked(1, get("/a"), of(200, "d"), fl("t", "u"))
	a.says(api.ErrProto, ack())
	c := begun(t)
	c.says(api.ErrProto, ack())
	c = begun(t)
	c.asks(api.OK, 1, false, get("/c")...)
	c.sends(api.OK, 1, 100)
	c.says(api.ErrFlow, data(1, "x"))
}

// What was answered is the caller's: nothing changes it, and it changes nothing.
func TestAnswersStayP2002(t *testing.T) {
	s := begun(t)
	s.asks(api.OK, 1, false, get("/", fl("k", "v"))...)
	s.says(api.OK, data(1, "abc"))
	s.asks(api.OK, 3, true, get("/3")...)
	opened := s.a.Opened()
	l, body, m, _ := s.a.Asked(1)
	s.asks(api.OK, 1, true, fl("t", "u"), fl("v", "w"))
	s.asks(api.OK, 5, true, get("/5")...)
	if !slices.Equal(opened, []int{1, 3}) || !slices.Equal(l, get("/", fl("k", "v"))) || body != "abc" || len(m) != 0 {
		t.Errorf("what was answered became %v %q %q %q", opened, l, body, m)
	}
	l, _, m, _ = s.a.Asked(1)
	opened = s.a.Opened()
	for i := range l {
		l[i] = fl("x", "y")
	}
	l = append(l, fl("x", "y"))
	m[0], opened[0] = fl("x", "y"), 99
	m = append(m[:1], fl("x", "y"))
	opened = append(opened[:1], 77)
	_, _, _ = l, m, opened
	s.has(3, 1, 3, 5)
	s.asked(1, get("/", fl("k", "v")), "abc", fl("t", "u"), fl("v", "w"))
	s.asks(api.OK, 7, true, get("/7")...)
	s.has(4, 1, 3, 5, 7)
}
