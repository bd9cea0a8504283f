package audit

import (
	"slices"
	"strings"
	"testing"

	"bywash/api"
	"bywash/block"
	"bywash/conn"
	"bywash/frame"
	"bywash/pack"
	"bywash/prefs"
)

// side is an auditor, and the client at which it looks.
type side struct {
	t      *testing.T
	a      *Auditor
	packer *pack.Packer
}

// fresh is an auditor that got nothing.
func fresh(t *testing.T) *side {
	t.Helper()
	return &side{t: t, a: New(), packer: pack.NewPacker()}
}

// greeted is one that got the Preface.
func greeted(t *testing.T) *side {
	t.Helper()
	s := fresh(t)
	s.tells(api.OK, conn.Preface)
	return s
}

// begun is one that got the Preface and the first Settings.
func begun(t *testing.T) *side {
	t.Helper()
	s := greeted(t)
	s.says(api.OK, settings())
	return s
}

// bytesOf tells frames as they go over a connection.
func bytesOf(l ...api.Frame) string {
	b := ""
	for _, f := range l {
		x, ok := frame.Put(f)
		if !ok {
			panic("no frame")
		}
		b += x
	}
	return b
}

// tells hands it bytes of the client's, and holds what it answers.
func (s *side) tells(want api.Errno, b string) {
	s.t.Helper()
	if got := s.a.Client(b); got != want {
		s.t.Errorf("Client(%q): %d, not %d", b, got, want)
	}
}

// says hands it frames of the client's, each in one piece; all but the last one are right.
func (s *side) says(want api.Errno, l ...api.Frame) {
	s.t.Helper()
	for i, f := range l {
		now := want
		if i+1 < len(l) {
			now = api.OK
		}
		if got := s.a.Client(bytesOf(f)); got != now {
			s.t.Errorf("Client of %v, frame %d: %d, not %d", f, i, got, now)
		}
	}
}

// asks hands it headers of the client's, and holds what it answers to the last of their frames.
func (s *side) asks(want api.Errno, id int, end bool, l ...api.Field) {
	s.t.Helper()
	s.says(want, s.heads(id, end, l...)...)
}

// heads packs headers into frames of the client's.
func (s *side) heads(id int, end bool, l ...api.Field) []api.Frame {
	cut, ok := block.Cut(id, s.packer.Pack(l...), end, api.FirstFrame)
	if !ok {
		s.t.Fatalf("no block of stream %d", id)
	}
	return cut
}

// hears hands it frames that the client has got.
func (s *side) hears(l ...api.Frame) {
	for _, f := range l {
		s.a.Server(f)
	}
}

// broke holds that it tells an error from now on, whatever comes.
func (s *side) broke(want api.Errno) {
	s.t.Helper()
	for _, b := range []string{"", "x", bytesOf(asking()), bytesOf(settings()), bytesOf(promise(1)), conn.Preface, of(600, "x")} {
		s.tells(want, b)
	}
	s.hears(settings(pf(api.PrefWindow, 1000)), update(0, 1000))
	s.asks(want, 1001, true, get("/")...)
	s.tells(want, "")
}

// has holds which streams were opened, and how many are open.
func (s *side) has(open int, opened ...int) {
	s.t.Helper()
	if got := s.a.Opened(); !slices.Equal(got, opened) {
		s.t.Errorf("Opened: %v, not %v", got, opened)
	}
	if got := s.a.Open(); got != open {
		s.t.Errorf("Open: %d, not %d", got, open)
	}
}

// asked holds what was asked on a stream.
func (s *side) asked(id int, fields []api.Field, body string, trailers ...api.Field) {
	s.t.Helper()
	l, b, m, is := s.a.Asked(id)
	if !is || !slices.Equal(l, fields) || b != body || !slices.Equal(m, trailers) {
		s.t.Errorf("Asked(%d): %q %q %q %t, not %q %q %q true", id, l, b, m, is, fields, body, trailers)
	}
}

// unasked holds that a stream was not opened.
func (s *side) unasked(ids ...int) {
	s.t.Helper()
	for _, id := range ids {
		if l, b, m, is := s.a.Asked(id); is || len(l) != 0 || b != "" || len(m) != 0 {
			s.t.Errorf("Asked(%d): %q %q %q %t, not false", id, l, b, m, is)
		}
	}
}

// holds holds how many bytes wait.
func (s *side) holds(n int) {
	s.t.Helper()
	if got := s.a.Held(); got != n {
		s.t.Errorf("Held: %d, not %d", got, n)
	}
}

// sends hands it Data in frames of no more than may be at first.
func (s *side) sends(want api.Errno, id, n int) {
	s.t.Helper()
	for ; n > api.FirstFrame; n -= api.FirstFrame {
		s.says(api.OK, data(id, of(api.FirstFrame, "d")))
	}
	s.says(want, data(id, of(n, "d")))
}

func fl(name, value string) api.Field { return api.Field{Name: name, Value: value} }

func get(path string, l ...api.Field) []api.Field {
	return append([]api.Field{fl(":method", "GET"), fl(":scheme", "http"), fl(":authority", "a"), fl(":path", path)}, l...)
}

func of(n int, s string) string { return strings.Repeat(s, n) }

func number4(n int) string {
	return string([]byte{byte(n >> 24), byte(n >> 16), byte(n >> 8), byte(n)})
}

func pf(id, value int) api.Pref { return api.Pref{Id: id, Value: value} }

func settings(l ...api.Pref) api.Frame {
	b, ok := prefs.Put(l...)
	if !ok {
		panic("no settings")
	}
	return api.Frame{Kind: api.Settings, Body: b}
}

func ack() api.Frame { return api.Frame{Kind: api.Settings, Flags: api.Ack} }

func data(id int, b string) api.Frame { return api.Frame{Kind: api.Data, Id: id, Body: b} }

// last is a frame with End.
func last(f api.Frame) api.Frame { f.Flags |= api.End; return f }

// padded is Data, or Headers, with so many bytes of padding.
func padded(f api.Frame, n int) api.Frame {
	f.Flags |= api.Padded
	f.Body = string([]byte{byte(n)}) + f.Body + of(n, "\x00")
	return f
}

// heading is a Headers whose body is given; continued a Continue.
func heading(id, flags int, b string) api.Frame {
	return api.Frame{Kind: api.Headers, Flags: flags, Id: id, Body: b}
}

func continued(id, flags int, b string) api.Frame {
	return api.Frame{Kind: api.Continue, Flags: flags, Id: id, Body: b}
}

func reset(id int) api.Frame {
	return api.Frame{Kind: api.Reset, Id: id, Body: number4(api.CodeCancel)}
}

func update(id, n int) api.Frame { return api.Frame{Kind: api.Update, Id: id, Body: number4(n)} }

func asking() api.Frame { return api.Frame{Kind: api.Ping, Body: "12345678"} }

func away(last int) api.Frame {
	return api.Frame{Kind: api.Away, Body: number4(last) + number4(api.CodeNone)}
}

func promise(id int) api.Frame { return api.Frame{Kind: api.Promise, Flags: api.Whole, Id: id} }

func priority(id int) api.Frame { return api.Frame{Kind: api.Priority, Id: id, Body: "12345"} }

// other is a frame of a kind that nobody knows.
func other(n int) api.Frame { return api.Frame{Kind: 99, Body: of(n, "o")} }
