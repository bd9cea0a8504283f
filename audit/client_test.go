package audit

import (
	"strings"
	"testing"

	"bywash/api"
	"bywash/conn"
	"bywash/squeeze"
)

func TestPrefaceWholeP2001(t *testing.T) {
	s := fresh(t)
	s.tells(api.OK, "")
	s.tells(api.OK, conn.Preface)
	s.tells(api.OK, "")
	s.says(api.OK, settings()) // the document's own
	s.has(0)
	s.holds(0)
	s = fresh(t)
	s.tells(api.OK, conn.Preface+bytesOf(settings()))
	s.holds(0)
	s = fresh(t)
	s.tells(api.OK, conn.Preface+bytesOf(settings(), asking())+bytesOf(s.heads(1, true, get("/")...)...))
	s.has(1, 1)
}

func TestPrefaceInPiecesP2001(t *testing.T) {
	s := fresh(t)
	all := conn.Preface + bytesOf(settings(pf(api.PrefPush, 0)), asking()) + bytesOf(s.heads(1, false, get("/")...)...) + bytesOf(data(1, "abc"))
	for i := range len(all) {
		s.tells(api.OK, all[i:i+1])
		s.tells(api.OK, "")
	}
	s.holds(0)
	s.asked(1, get("/"), "abc")
	s.says(api.ErrClosed, data(3, "abc"))
	for i := range len(conn.Preface) + 1 {
		s = fresh(t)
		s.tells(api.OK, conn.Preface[:i])
		s.tells(api.OK, conn.Preface[i:])
		s.tells(api.ErrOrder, bytesOf(asking()))
	}
}

func TestPrefaceBrokenP2001(t *testing.T) {
	for i := range len(conn.Preface) {
		for _, c := range []byte{conn.Preface[i] + 1, conn.Preface[i] ^ 32, conn.Preface[i] - 1, 0, 255} {
			wrong := conn.Preface[:i] + string([]byte{c})
			s := fresh(t)
			s.tells(api.ErrForm, wrong) // as soon as the byte is there
			s.broke(api.ErrForm)
			fresh(t).tells(api.ErrForm, wrong+conn.Preface[i+1:]+bytesOf(settings()))
			s = fresh(t)
			s.tells(api.OK, wrong[:i])
			s.tells(api.ErrForm, wrong[i:])
			s.tells(api.ErrForm, conn.Preface)
		}
	}
	for _, b := range []string{"\x00", bytesOf(settings()), conn.Preface[1:], " " + conn.Preface, strings.ToLower(conn.Preface), "GET / HTTP/1.1\r\n\r\n"} {
		fresh(t).tells(api.ErrForm, b)
	}
	s := greeted(t)
	s.tells(api.ErrSize, conn.Preface) // "PRI" is a length
}

func TestFrameLengthP2001(t *testing.T) {
	s := begun(t)
	s.says(api.OK, other(0), other(63), other(64))
	s.tells(api.OK, "\x00\x00")
	s.tells(api.ErrSize, "\x41")
	s.broke(api.ErrSize)
	for _, b := range []string{"\x00\x00\x41", "\x00\x01\x00", "\x01\x00\x00", "\xff\xff\xff", "\x00\x00\xff", "\x00\x01\x40"} {
		s = begun(t)
		s.tells(api.ErrSize, b)
		s.broke(api.ErrSize)
	}
	s = begun(t)
	s.says(api.ErrSize, other(65))
	s = begun(t)
	s.tells(api.OK, "\x00\x00\x40")
	s.tells(api.OK, "\x06")
}

func TestFrameLengthBySettingsP2001(t *testing.T) {
	for _, c := range []struct{ said, lets int }{{64, 64}, {65, 65}, {100, 100}, {511, 511}, {512, 512}, {513, 512}, {1<<24 - 1, 512}} {
		for _, acked := range []bool{false, true} {
			s := begun(t)
			s.hears(settings(pf(api.PrefFrame, c.said)))
			if acked {
				s.says(api.OK, ack())
			}
			s.says(api.OK, other(c.lets))
			s.tells(api.ErrSize, bytesOf(other(c.lets + 1))[:3])
			s.broke(api.ErrSize)
		}
	}
	// It counts ahead of the first frame, and of the Preface.
	s := fresh(t)
	s.hears(settings(pf(api.PrefFrame, 90)))
	s.tells(api.OK, conn.Preface)
	s.says(api.OK, settings(pf(1, 1), pf(1, 1), pf(1, 1), pf(1, 1), pf(1, 1), pf(1, 1), pf(1, 1), pf(1, 1), pf(1, 1), pf(1, 1), pf(1, 1), pf(1, 1), pf(1, 1), pf(1, 1), pf(1, 1)))
	s.says(api.ErrSize, other(91))
	// The length counts when it is there, whatever is let behind.
	s = begun(t)
	s.tells(api.ErrSize, "\x00\x00\x41")
	s.hears(settings(pf(api.PrefFrame, 100)))
	s.tells(api.ErrSize, "")
	s = begun(t)
	s.tells(api.OK, "\x00\x00")
	s.hears(settings(pf(api.PrefFrame, 100)))
	s.tells(api.OK, "\x41")
}

func TestFirstFrameP2001(t *testing.T) {
	for _, f := range []api.Frame{
		asking(), ack(), away(0), other(0), data(1, ""), heading(1, api.Whole|api.End, "\x82"), priority(1), reset(1), update(0, 1), update(1, 1), promise(1), continued(1, api.Whole, ""),
		{Kind: api.Settings, Flags: 255}, {Kind: api.Settings, Flags: api.Ack, Body: "123456"},
	} {
		s := greeted(t)
		s.says(api.ErrOrder, f)
		s.broke(api.ErrOrder)
	}
	// What rule.Check does not let be is told as another kind first.
	for _, f := range []api.Frame{{Kind: api.Ping}, {Kind: api.Ping, Id: 1}, data(0, ""), promise(0), reset(0), {Kind: api.Settings, Flags: api.Ack, Id: 1}} {
		greeted(t).says(api.ErrOrder, f)
	}
	for _, f := range []api.Frame{{Kind: api.Settings, Id: 1}, {Kind: api.Settings, Body: "12345"}} {
		s := greeted(t)
		s.says(api.ErrProto, f)
		s.broke(api.ErrProto)
	}
	for _, f := range []api.Frame{settings(), settings(pf(api.PrefPush, 0), pf(99, 1<<32-1)), {Kind: api.Settings, Flags: 254}} {
		s := greeted(t)
		s.says(api.OK, f, asking(), f)
	}
	// It is looked at when it is whole.
	s := greeted(t)
	s.tells(api.OK, bytesOf(asking())[:16])
	s.holds(16)
	s.tells(api.ErrOrder, "8")
	s = greeted(t)
	s.hears(settings())
	s.says(api.ErrOrder, ack())
}

func TestWhatMayNotBeP2001(t *testing.T) {
	for _, f := range []api.Frame{
		promise(1), promise(0), promise(2), data(0, ""), heading(0, api.Whole, ""), priority(0), reset(0), continued(0, api.Whole, ""),
		{Kind: api.Settings, Id: 1}, {Kind: api.Ping, Id: 1, Body: "12345678"}, {Kind: api.Away, Id: 1, Body: "12345678"},
		{Kind: api.Priority, Id: 1, Body: "1234"}, {Kind: api.Priority, Id: 1, Body: "123456"}, {Kind: api.Reset, Id: 1, Body: "123"}, {Kind: api.Reset, Id: 1, Body: "12345"},
		{Kind: api.Update, Body: "123"}, {Kind: api.Update, Id: 1, Body: "12345"}, {Kind: api.Ping, Body: "1234567"}, {Kind: api.Ping, Body: "123456789"},
		{Kind: api.Away, Body: "1234567"}, {Kind: api.Settings, Body: "12345"}, {Kind: api.Settings, Flags: api.Ack, Body: "123456"},
		{Kind: api.Data, Flags: api.Padded, Id: 1}, {Kind: api.Data, Flags: api.Padded, Id: 1, Body: "\x01"}, {Kind: api.Headers, Flags: api.Padded | api.Whole | api.End, Id: 3},
		{Kind: api.Headers, Flags: api.Padded | api.Whole | api.End, Id: 3, Body: "\x02\x82"}, {Kind: api.Headers, Flags: api.Weighed | api.Whole | api.End, Id: 3, Body: "1234"},
	} {
		s := begun(t)
		s.asks(api.OK, 1, false, get("/")...)
		s.hears(settings())
		s.says(api.ErrProto, f)
		s.broke(api.ErrProto)
	}
	s := begun(t)
	s.says(api.OK, asking(), away(5), other(3), update(0, 0), update(0, 1<<31-1), priority(7), priority(2), settings(pf(api.PrefPush, 9), pf(api.PrefWindow, 1<<31)),
		api.Frame{Kind: api.Ping, Flags: 255, Body: "12345678"}, api.Frame{Kind: 10}, api.Frame{Kind: 255, Flags: 255, Id: api.MaxIds, Body: "x"}, away(0))
	s.has(0)
}

func TestAcksP2001(t *testing.T) {
	s := begun(t)
	s.says(api.ErrProto, ack())
	s.broke(api.ErrProto)
	s = begun(t)
	s.hears(settings())
	s.says(api.OK, ack())
	s.says(api.ErrProto, ack())
	s.broke(api.ErrProto)
	s = begun(t)
	s.hears(settings(), settings(pf(api.PrefMany, 3)))
	s.says(api.OK, ack(), asking(), settings(), ack())
	s.hears(settings())
	s.says(api.OK, ack())
	s.says(api.ErrProto, api.Frame{Kind: api.Settings, Flags: 255})
	// An Ack that comes ahead of its Settings is none.
	s = begun(t)
	s.says(api.ErrProto, ack())
	s.hears(settings())
	s.tells(api.ErrProto, "")
}

func TestBlocksP2001(t *testing.T) {
	path := "/" + of(190, "\xfe")
	s := begun(t)
	cut := s.heads(1, true, get(path)...)
	if len(cut) < 4 {
		t.Fatalf("only %d frames", len(cut))
	}
	s.says(api.OK, cut[0])
	s.asked(1, nil, "")
	s.has(1, 1)
	s.says(api.OK, cut[1:]...)
	s.asked(1, get(path), "")
	// What comes between is against the rules: any kind, of any stream.
	for _, f := range []api.Frame{
		asking(), settings(), other(0), data(1, ""), cut[0], heading(3, api.Whole|api.End, ""), priority(1), reset(1), update(0, 1), update(1, 1), away(0), continued(3, 0, ""), continued(3, api.Whole, ""), promise(1),
	} {
		s = begun(t)
		s.says(api.OK, cut[0])
		s.says(api.ErrProto, f)
		s.broke(api.ErrProto)
		s = begun(t)
		s.says(api.OK, cut[:2]...)
		s.says(api.ErrProto, f)
	}
	// A Continue with none open.
	for _, f := range []api.Frame{continued(1, api.Whole, ""), continued(1, 0, ""), continued(3, api.Whole, "\x82")} {
		begun(t).says(api.ErrProto, f)
		s = begun(t)
		s.asks(api.OK, 1, false, get("/")...)
		s.says(api.ErrProto, f)
		s.broke(api.ErrProto)
	}
	// Frames of no bytes, padding and a priority are no matter.
	s = begun(t)
	b := s.packer.Pack(get("/x")...)
	s.says(api.OK, padded(heading(1, api.Weighed, "12345"+b[:2]), 7), continued(1, 0, ""), continued(1, 255-api.Whole, b[2:]), continued(1, api.Whole, ""))
	s.asked(1, get("/x"), "")
	s.sends(api.OK, 1, 3) // what a Continue has beside Whole is no End
	s.has(1, 1)
}

// wide tells a number of as many bytes as it may take.
func wide(first byte, bits, n int) string {
	m := 1<<bits - 1
	b := []byte{first + byte(m)}
	for k := range 5 {
		b = append(b, byte((n-m)>>(7*k))&127|128)
	}
	b[5] &= 127
	return string(b)
}

// longest tells a block of more bytes than its fields count: all numbers are wide, and all texts longer than they were.
func longest(l ...api.Field) string {
	b := wide(32, 5, 100) + wide(32, 5, api.MaxTable)
	for _, f := range l {
		b += string([]byte{0, byte(len(f.Name))}) + f.Name + wide(128, 7, squeeze.Len(f.Value)) + squeeze.Put(f.Value)
	}
	return b
}

func TestLongBlockP2001(t *testing.T) {
	rare := of(110, "\xff")
	l := []api.Field{fl(":method", rare), fl(":scheme", rare), fl(":authority", rare), fl(":path", "/"+rare)}
	b := longest(l...)
	if len(b) <= api.MaxList {
		t.Fatalf("a block of %d bytes", len(b))
	}
	s := begun(t)
	s.says(api.OK, heading(1, api.End, b[:64]))
	for b = b[64:]; len(b) > 64; b = b[64:] {
		s.says(api.OK, continued(1, 0, b[:64]))
	}
	s.says(api.OK, continued(1, api.Whole, b))
	s.asked(1, l, "")
	// However long it is, it goes on until it is whole.
	s = begun(t)
	s.says(api.OK, heading(1, api.End, ""))
	for range 200 {
		s.says(api.OK, continued(1, 0, of(64, "\x00")))
	}
	s.says(api.ErrPack, continued(1, api.Whole, ""))
	s.broke(api.ErrPack)
}

func TestNumbersP2001(t *testing.T) {
	for _, id := range []int{2, 4, 100, api.MaxIds - 1} {
		s := begun(t)
		s.asks(api.ErrProto, id, true, get("/")...)
		s.broke(api.ErrProto)
		s = begun(t)
		s.asks(api.OK, 1, true, get("/")...)
		s.asks(api.ErrProto, id, true, get("/")...)
	}
	s := begun(t)
	for _, id := range []int{3, 5, 7, 11, 99, api.MaxIds} {
		s.asks(api.OK, id, true, get("/")...)
	}
	s.has(6, 3, 5, 7, 11, 99, api.MaxIds)
	for _, id := range []int{1, 3, 5, 7, 9, 13, 97, 101, api.MaxIds - 2, api.MaxIds} {
		s := begun(t)
		s.asks(api.OK, 7, true, get("/")...)
		s.asks(api.OK, 99, true, get("/")...)
		s.says(api.OK, reset(7))
		want := api.OK
		if id <= 99 {
			want = api.ErrProto
		}
		s.asks(want, id, true, get("/")...)
		if want != api.OK {
			s.broke(want)
		}
	}
	for _, id := range []int{1, 3} {
		s = begun(t)
		s.asks(api.OK, 3, true, get("/")...)
		s.says(api.OK, reset(3))
		s.asks(api.ErrProto, id, true, get("/")...) // a number is not given back
	}
}

func TestHeadersAgainP2001(t *testing.T) {
	ended := func(s *side) { s.says(api.OK, last(data(1, ""))) }
	for name, c := range map[string]struct {
		ahead func(s *side)
		end   bool
		want  api.Errno
	}{
		"open, with End":                    {func(*side) {}, true, api.OK},
		"open, without":                     {func(*side) {}, false, api.ErrProto},
		"the server ended, with End":        {func(s *side) { s.hears(last(data(1, ""))) }, true, api.OK},
		"the server ended, without":         {func(s *side) { s.hears(last(data(1, ""))) }, false, api.ErrProto},
		"ended":                             {ended, true, api.ErrProto},
		"ended, without":                    {ended, false, api.ErrProto},
		"ended by trailers":                 {func(s *side) { s.asks(api.OK, 1, true, fl("t", "u")) }, true, api.ErrProto},
		"ended by empty trailers":           {func(s *side) { s.asks(api.OK, 1, true) }, true, api.ErrProto},
		"reset":                             {func(s *side) { s.says(api.OK, reset(1)) }, true, api.ErrProto},
		"reset, without":                    {func(s *side) { s.says(api.OK, reset(1)) }, false, api.ErrProto},
		"reset by the server":               {func(s *side) { s.hears(reset(1)) }, true, api.ErrProto},
		"both ended":                        {func(s *side) { ended(s); s.hears(last(data(1, ""))) }, true, api.ErrProto},
		"Data, an Update, another between":  {func(s *side) { s.sends(api.OK, 1, 5); s.says(api.OK, update(1, 1), asking()) }, true, api.OK},
		"another one with a greater number": {func(s *side) { s.asks(api.OK, 9, true, get("/")...) }, true, api.OK},
	} {
		s := begun(t)
		s.asks(api.OK, 1, false, get("/")...)
		c.ahead(s)
		cut := s.heads(1, c.end, fl("t", of(90, "\xff")))
		if len(cut) < 2 {
			t.Fatal("one frame")
		}
		if s.says(c.want, cut[0]); c.want != api.OK { // told as the block opens
			s.broke(c.want)
			continue
		}
		if s.says(api.OK, cut[1:]...); t.Failed() {
			t.Fatal(name)
		}
	}
}

func TestManyP2001(t *testing.T) {
	s := begun(t)
	for k := range api.MaxOpen {
		s.asks(api.OK, 2*k+1, k%2 == 0, get("/")...)
	}
	s.has(6, 1, 3, 5, 7, 9, 11)
	s.asks(api.OK, 3, true, fl("t", "u")) // one that is open is not one more
	s.says(api.ErrProto, heading(13, api.End, ""))
	s.broke(api.ErrProto)
	for what, end := range map[string]func(s *side){
		"reset":               func(s *side) { s.says(api.OK, reset(5)) },
		"reset by the server": func(s *side) { s.hears(reset(5)) },
		"both ended":          func(s *side) { s.says(api.OK, last(data(5, ""))); s.hears(last(data(5, ""))) },
		"both, the other way": func(s *side) { s.hears(last(heading(5, 0, ""))); s.says(api.OK, last(data(5, ""))) },
		"trailers":            func(s *side) { s.hears(last(heading(5, 0, ""))); s.asks(api.OK, 5, true, fl("t", "u")) },
	} {
		s = begun(t)
		for k := range api.MaxOpen {
			s.asks(api.OK, 2*k+1, false, get("/")...)
		}
		end(s)
		s.has(5, 1, 3, 5, 7, 9, 11)
		s.asks(api.OK, 13, false, get("/")...)
		s.has(6, 1, 3, 5, 7, 9, 11, 13)
		if s.asks(api.ErrProto, 15, false, get("/")...); t.Failed() {
			t.Fatal(what)
		}
	}
	// One that has ended on one side alone is open.
	for _, end := range []func(s *side){func(s *side) { s.says(api.OK, last(data(5, ""))) }, func(s *side) { s.hears(last(data(5, ""))) }} {
		s = begun(t)
		for k := range api.MaxOpen {
			s.asks(api.OK, 2*k+1, false, get("/")...)
		}
		end(s)
		s.has(6, 1, 3, 5, 7, 9, 11)
		s.asks(api.ErrProto, 13, false, get("/")...)
	}
}

func TestPackP2001(t *testing.T) {
	for _, b := range []string{"\x80", "\xff", "\xff\xff\xff\xff\xff\xff", "\x40", "\x00\x05ab", "\x00\x81\xff\x00", "\x82\x20", "\x20\x20\x20", "\x3f\xe2\x03", "\x92"} {
		s := begun(t)
		s.says(api.ErrPack, heading(1, api.Whole|api.End, b))
		s.broke(api.ErrPack)
		s = begun(t)
		s.says(api.OK, heading(1, api.End, b[:1]))
		s.says(api.ErrPack, continued(1, api.Whole, b[1:]))
		s.broke(api.ErrPack)
		s = begun(t)
		s.asks(api.OK, 1, false, get("/")...)
		s.says(api.OK, heading(1, api.End, b))
		s.says(api.ErrPack, continued(1, api.Whole, ""))
		s.broke(api.ErrPack)
		// Ahead of the rules of fields.
		s = begun(t)
		s.says(api.ErrPack, heading(1, api.Whole|api.End, "\x00\x01A\x01b"+b))
	}
	// A list that is too long, first ones or trailers: of 600 it may be.
	for _, more := range []int{0, 1} {
		// the four count 166, these 36, 130, 130 and 138
		l := append(get("/"), fl("a", "123"), fl("b", of(97, "b")), fl("c", of(97, "b")), fl("d", of(105+more, "b")))
		s := begun(t)
		if more == 0 {
			s.asks(api.OK, 1, true, l...)
			s.asked(1, l, "")
		} else {
			s.asks(api.ErrPack, 1, true, l...)
			s.broke(api.ErrPack)
		}
		m := []api.Field{fl("a", of(167, "b")), fl("b", of(167, "b")), fl("c", of(167+more, "b"))}
		s = begun(t)
		s.asks(api.OK, 1, false, get("/")...)
		if more == 0 {
			s.asks(api.OK, 1, true, m...)
			s.asked(1, get("/"), "", m...)
		} else {
			s.asks(api.ErrPack, 1, true, m...)
			s.broke(api.ErrPack)
		}
	}
}

// The table is both sides' from block to block, as great as MaxTable, whichever stream it is.
func TestTableP2001(t *testing.T) {
	long := []api.Field{fl("a", of(60, "b")), fl("c", of(60, "d")), fl("e", of(60, "f"))}
	s := begun(t)
	s.asks(api.OK, 1, false, get("/", fl("k", "v"))...)
	n := len(s.packer.Pack(get("/", fl("k", "v"))...))
	if n > 8 {
		t.Fatalf("a list that is known takes %d bytes", n)
	}
	s.asks(api.OK, 3, true, get("/", fl("k", "v"))...)
	s.asked(3, get("/", fl("k", "v")), "")
	s.asks(api.OK, 1, true, fl("k", "v"))
	s.asked(1, get("/", fl("k", "v")), "", fl("k", "v"))
	s.packer.Limit(api.MaxTable)
	s.hears(settings(pf(api.PrefTable, 1000)))
	for id := 5; id <= 11; id += 2 {
		s.asks(api.OK, id, true, get("/", long...)...)
		s.asked(id, get("/", long...), "")
	}
	s = begun(t)
	s.says(api.OK, heading(1, api.End, "\x3f\xe1\x03")) // 512
	s.says(api.ErrName, continued(1, api.Whole, ""))
	s = begun(t)
	s.says(api.ErrPack, heading(1, api.End|api.Whole, "\x3f\xe2\x03")) // 513
}

func TestNamesP2001(t *testing.T) {
	for name, l := range map[string][]api.Field{
		"none":                 nil,
		"no path":              get("/")[:3],
		"an empty authority":   {fl(":method", "GET"), fl(":scheme", "http"), fl(":authority", ""), fl(":path", "/")},
		"no slash":             get("x"),
		"a great letter":       get("/", fl("A", "b")),
		"forbidden":            get("/", fl("connection", "close")),
		"a value":              get("/", fl("a", "b ")),
		"a status":             get("/", fl(":status", "200")),
		"an order":             append([]api.Field{fl("a", "b")}, get("/")...),
		"twice":                get("/", fl(":path", "/")),
		"trailers":             {fl("t", "u")},
		"a name that is none":  get("/", fl("", "b")),
		"a response's":         {fl(":status", "200")},
		"te":                   get("/", fl("te", "gzip")),
		"a name of colons":     get("/", fl(":x", "b")),
		"a name that is long":  get("/", fl(of(41, "n"), "b")),
		"a value that is long": get("/", fl("n", of(201, "b"))),
	} {
		s := begun(t)
		s.asks(api.ErrName, 1, true, l...)
		s.broke(api.ErrName)
		s = begun(t)
		s.says(api.OK, heading(1, 0, ""))
		if s.says(api.ErrName, s.continues(1, l...)...); t.Failed() {
			t.Fatal(name)
		}
	}
	for name, l := range map[string][]api.Field{
		"a path":         {fl(":path", "/")},
		"a request":      get("/"),
		"a status":       {fl(":status", "200")},
		"a great letter": {fl("t", "u"), fl("T", "u")},
		"forbidden":      {fl("upgrade", "u")},
		"a value":        {fl("t", " u")},
		"te":             {fl("te", "")},
		"a colon behind": {fl("t", "u"), fl(":method", "GET")},
	} {
		s := begun(t)
		s.asks(api.OK, 1, false, get("/")...)
		s.asks(api.ErrName, 1, true, l...)
		if s.broke(api.ErrName); t.Failed() {
			t.Fatal(name)
		}
	}
	s := begun(t)
	s.asks(api.OK, 1, false, get("/", fl("te", "trailers"), fl("content-length", "x"))...) // of which field.Request says nothing
	s.asks(api.OK, 1, true, fl("te", "trailers"), fl("t", ""), fl("t", ""))
	s = begun(t)
	s.asks(api.OK, 1, false, get("/")...)
	s.asks(api.OK, 1, true)
	s.asked(1, get("/"), "")
}

// continues packs headers into Continues alone, behind a Headers of no bytes.
func (s *side) continues(id int, l ...api.Field) []api.Frame {
	cut := s.heads(id, false, l...)
	cut[0].Kind = api.Continue
	return cut
}

func TestConnectionsWindowP2001(t *testing.T) {
	// 100 bytes in all, however many streams and windows of theirs.
	s := begun(t)
	s.hears(settings(pf(api.PrefWindow, 1000)))
	s.asks(api.OK, 1, false, get("/")...)
	s.asks(api.OK, 3, false, get("/")...)
	s.sends(api.OK, 1, 60)
	s.sends(api.OK, 3, 40)
	s.says(api.OK, data(1, ""), data(3, ""))
	s.says(api.ErrFlow, data(1, "x"))
	s.broke(api.ErrFlow)
	for _, c := range []struct {
		n    int
		want api.Errno
	}{{36, api.OK}, {37, api.ErrFlow}} {
		s = begun(t)
		s.hears(settings(pf(api.PrefWindow, 1000)))
		s.asks(api.OK, 1, false, get("/")...)
		s.sends(api.OK, 1, 64)
		s.says(c.want, data(1, of(c.n, "x")))
		// Padding counts, too, and the byte that tells it.
		s = begun(t)
		s.hears(settings(pf(api.PrefWindow, 1000)))
		s.asks(api.OK, 1, false, get("/")...)
		s.says(api.OK, padded(data(1, "x"), 62))
		s.says(c.want, padded(data(1, ""), c.n-1))
	}
	// What a stream may not have any more was the connection's, too; a Reset gives nothing back.
	s = begun(t)
	s.asks(api.OK, 1, false, get("/")...)
	s.sends(api.OK, 1, 90)
	s.says(api.OK, reset(1))
	s.asks(api.OK, 3, false, get("/")...)
	s.sends(api.OK, 3, 10)
	s.says(api.ErrFlow, data(3, "x"))
}

func TestStreamsWindowP2001(t *testing.T) {
	for _, c := range []struct {
		n    int
		want api.Errno
	}{{36, api.OK}, {37, api.ErrFlow}} {
		s := begun(t)
		s.hears(update(0, 1000))
		s.asks(api.OK, 1, false, get("/")...)
		s.asks(api.OK, 3, false, get("/")...)
		s.sends(api.OK, 3, 90)
		s.sends(api.OK, 1, 64)
		s.says(c.want, data(1, of(c.n, "x")))
		if c.want != api.OK {
			s.broke(c.want)
		}
		s = begun(t)
		s.hears(update(0, 1000))
		s.asks(api.OK, 1, false, get("/")...)
		s.says(api.OK, padded(data(1, "x"), 62))
		s.says(c.want, padded(data(1, "x"), c.n-2))
	}
	s := begun(t)
	s.hears(update(0, 1000))
	s.asks(api.OK, 1, false, get("/")...)
	s.sends(api.OK, 1, 100)
	s.says(api.OK, data(1, ""), data(1, ""))
	s.says(api.ErrFlow, last(data(1, "x")))
	// Nothing of no bytes is beyond a window, unless that is below nothing.
	s = begun(t)
	s.asks(api.OK, 1, false, get("/")...)
	s.sends(api.OK, 1, 10)
	s.hears(settings(pf(api.PrefWindow, 10)))
	s.says(api.OK, data(1, ""))
	s.hears(settings(pf(api.PrefWindow, 9)))
	s.says(api.ErrFlow, data(1, ""))
}

func TestDataClosedP2001(t *testing.T) {
	for name, ahead := range map[string]func(s *side){
		"not opened":          func(s *side) {},
		"another is":          func(s *side) { s.asks(api.OK, 1, false, get("/")...) },
		"skipped":             func(s *side) { s.asks(api.OK, 7, false, get("/")...) },
		"ended at first":      func(s *side) { s.asks(api.OK, 5, true, get("/")...) },
		"ended by Data":       func(s *side) { s.asks(api.OK, 5, false, get("/")...); s.says(api.OK, last(data(5, "x"))) },
		"ended by trailers":   func(s *side) { s.asks(api.OK, 5, false, get("/")...); s.asks(api.OK, 5, true, fl("t", "u")) },
		"reset":               func(s *side) { s.asks(api.OK, 5, false, get("/")...); s.says(api.OK, reset(5)) },
		"reset by the server": func(s *side) { s.asks(api.OK, 5, false, get("/")...); s.hears(reset(5)) },
		"both ended":          func(s *side) { s.asks(api.OK, 5, true, get("/")...); s.hears(last(data(5, ""))) },
	} {
		for _, f := range []api.Frame{data(5, ""), data(5, "x"), last(data(5, "")), padded(data(5, ""), 3)} {
			s := begun(t)
			ahead(s)
			s.says(api.ErrClosed, f)
			if s.broke(api.ErrClosed); t.Failed() {
				t.Fatal(name)
			}
		}
	}
	s := begun(t)
	s.asks(api.OK, 5, false, get("/")...)
	s.hears(last(data(5, "")))
	s.says(api.OK, data(5, "x"), last(data(5, "y"))) // what the server ended the client may still write
	s.says(api.ErrClosed, data(5, ""))
}

func TestNotGivenP2001(t *testing.T) {
	for _, f := range []api.Frame{reset(3), update(3, 1), reset(2), update(2, 0), reset(7), update(7, 1), reset(api.MaxIds), update(api.MaxIds, 1), last(reset(3))} {
		s := begun(t)
		s.says(api.ErrClosed, f)
		s.broke(api.ErrClosed)
		s = begun(t)
		s.asks(api.OK, 1, true, get("/")...)
		s.asks(api.OK, 5, true, get("/")...)
		s.says(api.ErrClosed, f)
	}
	s := begun(t)
	s.asks(api.OK, 1, true, get("/")...)
	s.asks(api.OK, 5, false, get("/")...)
	s.says(api.OK, update(1, 5), update(5, 0), update(5, 1<<31-1), update(0, 5), reset(1), reset(1), update(1, 5), reset(5), update(5, 1), reset(5))
	s.has(0, 1, 5)
	s = begun(t)
	s.asks(api.OK, 1, true, get("/")...)
	s.hears(reset(1))
	s.says(api.OK, reset(1), update(1, 1))
	// A client's Update lets the client send nothing.
	s = begun(t)
	s.asks(api.OK, 1, false, get("/")...)
	s.says(api.OK, update(1, 50), update(0, 50))
	s.sends(api.OK, 1, 100)
	s.says(api.ErrFlow, data(1, "x"))
}

// Where two would be told of one frame, it is the one that is named first.
func TestWhichFirstP2001(t *testing.T) {
	greeted(t).says(api.ErrSize, api.Frame{Kind: api.Ping, Body: of(65, "x")}) // ErrOrder, too
	s := begun(t)
	s.says(api.ErrSize, api.Frame{Kind: api.Data, Flags: api.Padded, Body: of(101, "\xff")}) // ErrProto, ErrFlow, ErrClosed, too
	greeted(t).says(api.ErrOrder, promise(1))
	greeted(t).says(api.ErrOrder, continued(1, api.Whole, ""))
	greeted(t).says(api.ErrOrder, heading(2, api.Whole, "\x80"))
	greeted(t).says(api.ErrOrder, data(1, "x"))
	begun(t).says(api.ErrProto, heading(2, api.Whole|api.End, "\x80"))           // ErrPack, too
	begun(t).says(api.ErrProto, heading(2, api.Whole|api.End, "\x00\x01A\x01b")) // ErrName, too
	s = begun(t)
	s.says(api.OK, heading(1, 0, ""))
	s.says(api.ErrProto, data(3, of(64, "x"))) // a block is open; ErrClosed, too
	s = begun(t)
	s.says(api.ErrPack, heading(1, api.Whole, "\x00\x01A\x01b\x80")) // ErrName, too
	s = begun(t)
	s.hears(settings(pf(api.PrefFrame, 200)))
	s.says(api.ErrFlow, data(1, of(101, "x"))) // ErrClosed, too
	s = begun(t)
	s.hears(settings(pf(api.PrefFrame, 200)))
	s.says(api.ErrClosed, data(1, of(100, "x")))
	s = begun(t)
	s.hears(settings(pf(api.PrefWindow, 5)))
	s.asks(api.OK, 1, false, get("/")...)
	s.says(api.OK, last(data(1, "12345")))
	s.says(api.ErrClosed, data(1, "6")) // beyond the stream's window, too
	s = begun(t)
	s.hears(settings(pf(api.PrefWindow, 5), pf(api.PrefFrame, 200)))
	s.asks(api.OK, 1, false, get("/")...)
	s.says(api.ErrFlow, data(1, of(101, "x")))
	// The first frame that is wrong, and not what comes behind it in the same piece.
	s = begun(t)
	s.tells(api.ErrClosed, bytesOf(asking(), reset(1), promise(1), data(1, of(64, "x"))))
	s = begun(t)
	s.tells(api.ErrProto, bytesOf(asking(), promise(1), reset(1)))
	s = begun(t)
	s.tells(api.ErrClosed, bytesOf(reset(1))+"\xff\xff\xff")
}
