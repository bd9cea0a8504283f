package conn

import (
	"fmt"
	"slices"
	"strings"
	"testing"

	"bywash/api"
	"bywash/block"
	"bywash/frame"
	"bywash/pack"
	"bywash/prefs"
	"bywash/split"
)

// plainConfig is of a connection of which nothing is out of the ordinary.
var plainConfig = Config{Window: 100, First: 1, Every: 5, Wait: 5}

// side is a connection, and the server on its other side.
type side struct {
	t      *testing.T
	c      *Conn
	packer *pack.Packer // the server's
	un     *pack.Unpacker
	in     *split.Splitter
	blocks *block.Blocks
}

// begun is a connection of which nothing was taken yet.
func begun(t *testing.T, c Config) *side {
	t.Helper()
	s := &side{
		t: t, c: New(c), packer: pack.NewPacker(),
		un: pack.NewUnpacker(api.MaxTable), in: split.New(api.MaxFrame), blocks: block.New(1 << 20),
	}
	if s.c == nil {
		t.Fatalf("New(%+v) is nil", c)
	}
	return s
}

// met is a connection that said what it says first, and got the server's first Settings.
func met(t *testing.T, c Config, l ...api.Pref) *side {
	t.Helper()
	s := begun(t, c)
	s.c.Take(len(Preface))
	s.says()
	s.feeds(api.OK, settings(l...))
	s.said("settings 1 0 \"\"")
	return s
}

func plain(t *testing.T) *side { t.Helper(); return met(t, plainConfig) }

// says tells what the connection said since it was asked last, frame by frame, in words.
func (s *side) says() []string {
	s.t.Helper()
	var out []string
	s.in.Feed(s.c.Take(1 << 30))
	for {
		f, is, e := s.in.Next()
		if e != api.OK {
			s.t.Fatalf("a frame that is too long was sent: %d", e)
		}
		if !is {
			break
		}
		out = append(out, s.word(f))
	}
	if s.in.Held() != 0 {
		s.t.Errorf("%d bytes of a frame that is not whole", s.in.Held())
	}
	return out
}

// word tells a frame in words: kind, flags, stream, and its body; a block's fields behind its last frame.
func (s *side) word(f api.Frame) string {
	s.t.Helper()
	word := fmt.Sprintf("%s %d %d", frame.Name(f.Kind), f.Flags, f.Id)
	b, whole, e := s.blocks.Take(f)
	if e != api.OK {
		s.t.Errorf("%s: no block: %d", word, e)
	}
	if f.Kind != api.Headers && f.Kind != api.Continue {
		return word + fmt.Sprintf(" %q", f.Body)
	}
	if !whole {
		return word + fmt.Sprintf(" +%d", len(f.Body))
	}
	l, e := s.un.Unpack(b.Bytes)
	if e != api.OK {
		s.t.Errorf("%s: cannot be unpacked: %d", word, e)
	}
	for _, x := range l {
		word += " " + x.Name + "=" + x.Value
	}
	return word
}

// said holds what the connection said against what is wanted.
func (s *side) said(want ...string) {
	s.t.Helper()
	if got := s.says(); !slices.Equal(got, want) {
		s.t.Errorf("said\n\t%s\nnot\n\t%s", strings.Join(got, "\n\t"), strings.Join(want, "\n\t"))
	}
}

// feeds hands it frames in one piece, and holds what it tells.
func (s *side) feeds(want api.Errno, l ...api.Frame) {
	s.t.Helper()
	if e := s.c.Feed(bytesOfFrames(l...)); e != want {
		s.t.Errorf("Feed(%v) told %d, not %d", l, e, want)
	}
}

// answers hands it headers of the server's.
func (s *side) answers(want api.Errno, id int, end bool, l ...api.Field) {
	s.t.Helper()
	cut, ok := block.Cut(id, s.packer.Pack(l...), end, api.FirstFrame)
	if !ok {
		s.t.Fatalf("no block for %d", id)
	}
	s.feeds(want, cut...)
}

// opens holds that a request gets that number.
func (s *side) opens(r api.Request, want int) {
	s.t.Helper()
	if id, e := s.c.Open(r); id != want || e != api.OK {
		s.t.Errorf("Open told %d, %d, not %d, OK", id, e, want)
	}
}

// refuses holds that a request gets that error.
func (s *side) refuses(r api.Request, want api.Errno) {
	s.t.Helper()
	if id, e := s.c.Open(r); id != 0 || e != want {
		s.t.Errorf("Open told %d, %d, not 0, %d", id, e, want)
	}
}

func (s *side) cancels(id int, err, want api.Errno) {
	s.t.Helper()
	if e := s.c.Cancel(id, err); e != want {
		s.t.Errorf("Cancel(%d, %d) told %d, not %d", id, err, e, want)
	}
}

func (s *side) reads(id, n int, want string, wantE api.Errno) {
	s.t.Helper()
	if b, e := s.c.Read(id, n); b != want || e != wantE {
		s.t.Errorf("Read(%d, %d) told %q, %d, not %q, %d", id, n, b, e, want, wantE)
	}
}

func (s *side) forgets(id int, want bool) {
	s.t.Helper()
	if ok := s.c.Forget(id); ok != want {
		s.t.Errorf("Forget(%d) told %v", id, ok)
	}
}

func (s *side) ticks(want api.Errno) {
	s.t.Helper()
	if e := s.c.Tick(); e != want {
		s.t.Errorf("Tick told %d, not %d", e, want)
	}
}

// sameInfo tells whether two are the same; lists that are nil and empty are one.
func sameInfo(a, b Info) bool {
	return a.Status == b.Status && a.Waits == b.Waits && a.Done == b.Done && a.Over == b.Over && a.Err == b.Err &&
		slices.Equal(a.Fields, b.Fields) && slices.Equal(a.Trailers, b.Trailers)
}

// knows holds all that Info tells of a stream.
func (s *side) knows(id int, want Info) {
	s.t.Helper()
	if i, e := s.c.Info(id); e != api.OK || !sameInfo(i, want) {
		s.t.Errorf("Info(%d) told %+v, %d, not %+v, OK", id, i, e, want)
	}
}

// ends holds that a stream is over with an error, with nothing of a response.
func (s *side) ends(id int, want api.Errno) { s.t.Helper(); s.knows(id, Info{Over: true, Err: want}) }

// unknown holds that all calls of a stream tell that it is not known.
func (s *side) unknown(l ...int) {
	s.t.Helper()
	for _, id := range l {
		if i, e := s.c.Info(id); e != api.ErrNone || !sameInfo(i, Info{}) {
			s.t.Errorf("Info(%d) told %+v, %d, not ErrNone", id, i, e)
		}
		s.reads(id, 1, "", api.ErrNone)
		s.reads(id, 0, "", api.ErrNone)
		s.forgets(id, false)
		if s.c.Dead() == api.OK {
			s.cancels(id, api.OK, api.ErrNone)
		}
	}
}

// stands holds what it tells of itself.
func (s *side) stands(busy int, can, gone bool, dead api.Errno) {
	s.t.Helper()
	if s.c.Busy() != busy || s.c.Can() != can || s.c.Gone() != gone || s.c.Dead() != dead {
		s.t.Errorf("Busy %d, Can %v, Gone %v, Dead %d, not %d, %v, %v, %d",
			s.c.Busy(), s.c.Can(), s.c.Gone(), s.c.Dead(), busy, can, gone, dead)
	}
}

func (s *side) counts(sent, taken int) {
	s.t.Helper()
	if a, b := s.c.Count(); a != sent || b != taken {
		s.t.Errorf("Count told %d, %d, not %d, %d", a, b, sent, taken)
	}
}

func bytesOfFrames(l ...api.Frame) string {
	b := ""
	for _, f := range l {
		x, ok := frame.Put(f)
		if !ok {
			panic(fmt.Sprint("no frame: ", f))
		}
		b += x
	}
	return b
}

// four tells a number's four bytes.
func four(n int) string { return string([]byte{byte(n >> 24), byte(n >> 16), byte(n >> 8), byte(n)}) }

// of tells n bytes.
func of(n int, b string) string { return strings.Repeat(b, n) }

func fl(name, value string) api.Field { return api.Field{Name: name, Value: value} }

func st(status string) api.Field { return fl(":status", status) }

// get, post are requests.
func get(path string, l ...api.Field) api.Request {
	return api.Request{Method: "GET", Scheme: "http", Authority: "a", Path: path, Fields: l}
}

func post(body string, trailers ...api.Field) api.Request {
	r := get("/p")
	r.Method, r.Body, r.Trailers = "POST", body, trailers
	return r
}

// Frames of a server's.
func data(id int, b string) api.Frame    { return api.Frame{Kind: api.Data, Id: id, Body: b} }
func dataEnd(id int, b string) api.Frame { f := data(id, b); f.Flags = api.End; return f }
func reset(id, code int) api.Frame       { return api.Frame{Kind: api.Reset, Id: id, Body: four(code)} }
func update(id, n int) api.Frame         { return api.Frame{Kind: api.Update, Id: id, Body: four(n)} }
func asks(b string) api.Frame            { return api.Frame{Kind: api.Ping, Body: b} }
func echo(b string) api.Frame            { return api.Frame{Kind: api.Ping, Flags: api.Ack, Body: b} }

func padded(id, pad int, b string) api.Frame {
	return api.Frame{Kind: api.Data, Flags: api.Padded, Id: id, Body: string([]byte{byte(pad)}) + b + of(pad, "\x00")}
}

func away(last, code int, more string) api.Frame {
	return api.Frame{Kind: api.Away, Body: four(last) + four(code) + more}
}

func settings(l ...api.Pref) api.Frame {
	b, ok := prefs.Put(l...)
	if !ok {
		panic("no settings")
	}
	return api.Frame{Kind: api.Settings, Body: b}
}

func pf(id, value int) api.Pref { return api.Pref{Id: id, Value: value} }

// What a connection says, in words.
func saysHead(id int, flags int, path string, l ...string) string {
	method := "GET"
	if path == "/p" {
		method = "POST"
	}
	w := fmt.Sprintf("headers %d %d :method=%s :scheme=http :authority=a :path=%s", flags, id, method, path)
	return strings.Join(append([]string{w}, l...), " ")
}

func saysData(id int, b string) string    { return fmt.Sprintf("data 0 %d %q", id, b) }
func saysDataEnd(id int, b string) string { return fmt.Sprintf("data 1 %d %q", id, b) }
func saysReset(id, code int) string       { return fmt.Sprintf("reset 0 %d %q", id, four(code)) }
func saysUpdate(id, n int) string         { return fmt.Sprintf("update 0 %d %q", id, four(n)) }
func saysAway(code int) string            { return fmt.Sprintf("away 0 0 %q", four(0)+four(code)) }
func saysPing(n byte) string              { return fmt.Sprintf("ping 0 0 %q", of(7, "\x00")+string([]byte{n})) }

const saysAck = "settings 1 0 \"\""
