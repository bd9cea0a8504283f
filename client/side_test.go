package client

import (
	"errors"
	"fmt"
	"math"
	"slices"
	"strings"
	"testing"

	"bywash/api"
	"bywash/block"
	"bywash/conn"
	"bywash/fail"
	"bywash/frame"
	"bywash/pack"
	"bywash/prefs"
	"bywash/split"
)

var usual = Config{Conn: conn.Config{Window: 100, First: 1, Every: 50, Wait: 50}, Conns: 2, Tries: 3, Time: 90}

// side is a client, and the servers on its other side.
type side struct {
	t     *testing.T
	c     *Client
	packs map[int]*pack.Packer // the servers'
	ins   map[int]*split.Splitter
}

// made tells a client that must be there, and stands empty.
func made(t *testing.T, c Config) *side {
	t.Helper()
	s := &side{t: t, c: New(c), packs: map[int]*pack.Packer{}, ins: map[int]*split.Splitter{}}
	if s.c == nil {
		t.Fatalf("New(%v): nil", c)
	}
	s.waiting()
	s.conns()
	return s
}

// with tells a client with so many connections, and calls of these requests that had one Step.
func with(t *testing.T, c Config, n int, l ...api.Request) *side {
	t.Helper()
	s := made(t, c)
	for _, r := range l {
		s.does(r)
	}
	for range n {
		s.comes()
	}
	s.c.Step()
	return s
}

// comes lets one connection more be there whose server greeted, and all of whose bytes are taken.
func (s *side) comes() int {
	s.t.Helper()
	s.c.Pool().Dial()
	k := s.c.Dialed(true)
	if k == 0 {
		s.t.Fatal("Dialed(true): 0")
	}
	s.feeds(k, api.OK, settings())
	s.c.Take(k, len(conn.Preface))
	s.hears(k)
	return k
}

// misses lets dialling come to nothing.
func (s *side) misses() {
	s.t.Helper()
	s.c.Pool().Dial()
	if k := s.c.Dialed(false); k != 0 {
		s.t.Fatalf("Dialed(false): %d", k)
	}
}

// does begins a call, and tells its number.
func (s *side) does(r api.Request) int {
	s.t.Helper()
	id, e := s.c.Do(r)
	if e != api.OK || id < 1 {
		s.t.Fatalf("Do: %d, %d", id, e)
	}
	s.is(id, 1, 0, 0, 0, "")
	return id
}

// refuses holds that Do tells that error.
func (s *side) refuses(r api.Request, want api.Errno) {
	s.t.Helper()
	if id, e := s.c.Do(r); id != 0 || e != want {
		s.t.Fatalf("Do: %d, %d, not 0, %d", id, e, want)
	}
}

// is holds how a call is, and its error's words ("": none).
func (s *side) is(id, phase, k, stream, tries int, words string) {
	s.t.Helper()
	got, is := s.c.State(id)
	told := ""
	if got.Err != nil {
		told = got.Err.Error()
	}
	if !is || got.Phase != phase || got.Conn != k || got.Stream != stream || got.Tries != tries || told != words {
		s.t.Fatalf("State(%d): %v, %v %q, not %v %q", id, got, is, told, []int{phase, k, stream, tries}, words)
	}
}

// unknown holds that no call has these numbers, whatever is asked.
func (s *side) unknown(l ...int) {
	s.t.Helper()
	for _, id := range l {
		if got, is := s.c.State(id); is || got != (State{}) {
			s.t.Fatalf("State(%d): %v, %v", id, got, is)
		}
		s.cancels(id, api.ErrNone)
		s.reads(id, 1, "", api.ErrNone)
		s.reads(id, 0, "", api.ErrNone)
		s.drops(id, false)
		s.gets(id, 0)
	}
}

// fails holds all that is to be known of a call's error.
func (s *side) fails(id int, first api.Errno, path []string, codes ...api.Errno) {
	s.t.Helper()
	got, _ := s.c.State(id)
	if got.Err == nil || fail.Code(got.Err) != first || !slices.Equal(fail.Path(got.Err), path) {
		s.t.Fatalf("State(%d): %v, Code %d, Path %q, not %d, %q", id, got.Err, fail.Code(got.Err), fail.Path(got.Err), first, path)
	}
	for code := api.OK; code <= api.ErrMany+2; code++ {
		if is := fail.Has(got.Err, code); is != slices.Contains(codes, code) {
			s.t.Fatalf("State(%d): Has(%d): %v", id, code, is)
		}
		if code != api.OK && errors.Is(got.Err, fail.New(code)) != slices.Contains(codes, code) {
			s.t.Fatalf("State(%d): errors.Is of %d", id, code)
		}
	}
}

func (s *side) waiting(want ...int) {
	s.t.Helper()
	if l := s.c.Waiting(); !slices.Equal(l, want) {
		s.t.Fatalf("Waiting: %v, not %v", l, want)
	}
}

func (s *side) conns(want ...int) {
	s.t.Helper()
	if l := s.c.Conns(); !slices.Equal(l, want) {
		s.t.Fatalf("Conns: %v, not %v", l, want)
	}
}

func (s *side) cancels(id int, want api.Errno) {
	s.t.Helper()
	if e := s.c.Cancel(id); e != want {
		s.t.Fatalf("Cancel(%d): %d, not %d", id, e, want)
	}
}

func (s *side) drops(id int, want bool) {
	s.t.Helper()
	if is := s.c.Drop(id); is != want {
		s.t.Fatalf("Drop(%d): %v", id, is)
	}
}

func (s *side) reads(id, n int, want string, wantE api.Errno) {
	s.t.Helper()
	if b, e := s.c.Read(id, n); b != want || e != wantE {
		s.t.Fatalf("Read(%d, %d): %q, %d, not %q, %d", id, n, b, e, want, wantE)
	}
}

// gets holds what is known of a response; status 0: nothing.
func (s *side) gets(id, status int, l ...api.Field) {
	s.t.Helper()
	r, is := s.c.Response(id)
	if is != (status != 0) || r.Status != status || r.Body != "" || !slices.Equal(r.Fields, l) || len(r.Trailers) != 0 {
		s.t.Fatalf("Response(%d): %v, %v, not %d, %v", id, r, is, status, l)
	}
}

// dials holds what Dial tells, and begins to dial where it may.
func (s *side) dials(want bool) {
	s.t.Helper()
	if is := s.c.Dial(); is != want {
		s.t.Fatalf("Dial: %v", is)
	}
}

// feeds lets a server say frames.
func (s *side) feeds(k int, want api.Errno, l ...api.Frame) {
	s.t.Helper()
	if e := s.c.Feed(k, bytesOf(l...)); e != want {
		s.t.Fatalf("Feed of %d: %d, not %d", k, e, want)
	}
}

// answers lets a server say headers on a stream: a response's, or trailers.
func (s *side) answers(k, id int, end bool, l ...api.Field) {
	s.t.Helper()
	if s.packs[k] == nil {
		s.packs[k] = pack.NewPacker()
	}
	cut, ok := block.Cut(id, s.packs[k].Pack(l...), end, api.FirstFrame)
	if !ok {
		s.t.Fatalf("no block for %d", id)
	}
	s.feeds(k, api.OK, cut...)
}

// hears tells all that is said on a connection and was not heard yet, in words: kind, stream, and what it is for.
func (s *side) hears(k int) []string {
	s.t.Helper()
	return s.hearsOf(k, s.c.Take(k, math.MaxInt))
}

// hearsOf tells in words what was taken of a connection; what is not whole waits for its rest.
func (s *side) hearsOf(k int, b string) []string {
	s.t.Helper()
	if s.ins[k] == nil {
		s.ins[k] = split.New(api.MaxFrame)
	}
	s.ins[k].Feed(b)
	var l []string
	for {
		f, is, e := s.ins[k].Next()
		if e != api.OK {
			s.t.Fatalf("connection %d says a frame that is too long", k)
		}
		if !is {
			return l
		}
		word := fmt.Sprintf("%s %d", frame.Name(f.Kind), f.Id)
		switch f.Kind {
		case api.Reset, api.Update:
			word += fmt.Sprint(" ", int(f.Body[2])<<8|int(f.Body[3]))
		case api.Data:
			word += " " + f.Body
		}
		l = append(l, word)
	}
}

// said holds what is said on a connection, since it was heard last.
func (s *side) said(k int, want ...string) {
	s.t.Helper()
	if got := s.hears(k); !slices.Equal(got, want) {
		s.t.Fatalf("connection %d said %q, not %q", k, got, want)
	}
}

func bytesOf(l ...api.Frame) string {
	b := ""
	for _, f := range l {
		x, ok := frame.Put(f)
		if !ok {
			panic("a frame that may not be")
		}
		b += x
	}
	return b
}

func four(n int) string { return string([]byte{byte(n >> 24), byte(n >> 16), byte(n >> 8), byte(n)}) }

func of(n int, b string) string { return strings.Repeat(b, n) }

func fl(name, value string) api.Field { return api.Field{Name: name, Value: value} }

func st(status string) api.Field { return fl(":status", status) }

func pf(id, value int) api.Pref { return api.Pref{Id: id, Value: value} }

// Frames of a server's.
func settings(l ...api.Pref) api.Frame {
	b, ok := prefs.Put(l...)
	if !ok {
		panic("settings that may not be")
	}
	return api.Frame{Kind: api.Settings, Body: b}
}

func data(id int, b string) api.Frame    { return api.Frame{Kind: api.Data, Id: id, Body: b} }
func dataEnd(id int, b string) api.Frame { f := data(id, b); f.Flags = api.End; return f }
func reset(id, code int) api.Frame       { return api.Frame{Kind: api.Reset, Id: id, Body: four(code)} }
func update(id, n int) api.Frame         { return api.Frame{Kind: api.Update, Id: id, Body: four(n)} }
func away(last int) api.Frame            { return api.Frame{Kind: api.Away, Body: four(last) + four(0)} }
func promise() api.Frame                 { return api.Frame{Kind: api.Promise, Id: 1} }
func asks(n int) api.Frame               { return api.Frame{Kind: api.Ping, Body: four(0) + four(n)} }

func echo(n int) api.Frame {
	return api.Frame{Kind: api.Ping, Flags: api.Ack, Body: four(0) + four(n)}
}

// request tells a request of a method.
func request(method, body string) api.Request {
	return api.Request{Method: method, Scheme: "http", Authority: "a", Path: "/", Body: body}
}

func get() api.Request             { return request("GET", "") }
func post(body string) api.Request { return request("POST", body) }

// gots tells so many GETs.
func gots(n int) []api.Request { return slices.Repeat([]api.Request{get()}, n) }
