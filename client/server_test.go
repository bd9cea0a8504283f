package client

import (
	"fmt"
	"math"
	"math/rand"
	"strings"
	"testing"

	"bywash/api"
	"bywash/audit"
	"bywash/block"
	"bywash/conn"
	"bywash/pack"
	"bywash/prefs"
	"bywash/split"
)

// server is the other side of a connection. Its answers keep the rules; what breaks them is drawn beside them.
type server struct {
	t       *testing.T
	r       *rand.Rand
	c       *Client
	number  int
	conn    *conn.Conn // as it was when it came: what nobody takes any more is in it
	audit   *audit.Auditor
	gets    []gotten // what the client got, and audit was not told yet
	heard   int      // bytes
	in      *split.Splitter
	packer  *pack.Packer
	room    int // what it may send on all streams
	first   int // and on each, at first
	jobs    []*job
	heads   map[int]int // where the Headers of each stream began
	refused map[int]bool
	last    int // of its Aways; MaxIds: it did not go away
	over    bool
}

// gotten is a frame that a client got when it had sent so many bytes.
type gotten struct {
	at int
	f  api.Frame
}

// job is a request that came, and its answer.
type job struct {
	id       int
	room     int
	r        api.Request // what is known of it
	whole    bool        // all of the request is there
	ends     bool        // its last block is not whole yet
	headed   bool
	body     string // what is left of the answer's
	trailers bool
	done     bool // answered, or broken off
	off      bool // broken off
	owed     int  // bytes to be credited
}

// meets makes the server of a connection that is new.
func meets(t *testing.T, r *rand.Rand, c *Client, k int) *server {
	s := &server{
		t: t, r: r, c: c, number: k, conn: c.Pool().At(k), audit: audit.New(), in: split.New(api.MaxFrame), packer: pack.NewPacker(),
		room: api.FirstWindow, heads: map[int]int{}, refused: map[int]bool{}, last: api.MaxIds,
	}
	s.says(settings(pf(api.PrefMany, 1+r.Intn(7))))
	return s
}

// says lets the client get frames, in pieces.
func (s *server) says(l ...api.Frame) {
	s.t.Helper()
	for _, f := range l {
		b := bytesOf(f)
		n := s.r.Intn(len(b))
		s.saysBytes(b[:n])
		if s.over {
			return
		}
		sent, _ := s.conn.Count()
		s.gets = append(s.gets, gotten{sent, f})
		s.saysBytes(b[n:])
		if f.Kind == api.Reset && f.Body == four(api.CodeRefused) {
			s.refused[f.Id] = true
		}
		if f.Kind == api.Away && len(f.Body) >= 8 {
			s.last = min(s.last, int(f.Body[2])<<8|int(f.Body[3])|(int(f.Body[0])&127)<<24|int(f.Body[1])<<16)
		}
	}
}

func (s *server) saysBytes(b string) {
	if s.over || s.c.Feed(s.number, b) != api.OK {
		s.over = true
	}
}

// hears takes up to n bytes of the client's.
func (s *server) hears(n int) {
	s.t.Helper()
	s.got(s.c.Take(s.number, n))
}

// got holds what the client sent against the rules, and takes it in.
func (s *server) got(b string) {
	s.t.Helper()
	s.audits(b)
	s.in.Feed(strings.TrimPrefix(b, conn.Preface)) // which comes whole
	s.heard += len(b)
	for {
		held := s.in.Held()
		f, is, e := s.in.Next()
		if e != api.OK {
			s.t.Fatalf("connection %d says a frame that is too long", s.number)
		}
		if !is {
			return
		}
		s.takes(f, s.heard-held)
	}
}

// audits lets audit hear bytes, and in between them what the client got.
func (s *server) audits(b string) {
	s.t.Helper()
	at := s.heard
	for {
		n := len(b)
		if len(s.gets) > 0 {
			n = min(n, s.gets[0].at-at)
		}
		if e := s.audit.Client(b[:n]); e != api.OK {
			s.t.Fatalf("connection %d: audit tells %d of %q", s.number, e, b)
		}
		at, b = at+n, b[n:]
		if len(s.gets) == 0 || s.gets[0].at != at {
			return
		}
		s.audit.Server(s.gets[0].f)
		s.gets = s.gets[1:]
	}
}

func (s *server) find(id int) *job {
	for _, j := range s.jobs {
		if j.id == id {
			return j
		}
	}
	return nil
}

// takes takes a frame that began at a byte.
func (s *server) takes(f api.Frame, at int) {
	j := s.find(f.Id)
	switch f.Kind {
	case api.Settings:
		if l, _ := prefs.Get(f.Body); f.Flags&api.Ack == 0 {
			s.first = l[1].Value
		}
	case api.Ping:
		if f.Flags&api.Ack == 0 {
			f.Flags |= api.Ack
			s.says(f)
		}
	case api.Away:
		s.over = true
	case api.Reset:
		j.done, j.off = true, true
	case api.Update:
		n := int(f.Body[0])<<24 | int(f.Body[1])<<16 | int(f.Body[2])<<8 | int(f.Body[3])
		if f.Id == 0 {
			s.room += n
		} else {
			j.room += n
		}
	case api.Headers, api.Continue:
		if j == nil {
			j = &job{id: f.Id, room: s.first, done: f.Id > s.last, off: f.Id > s.last}
			s.jobs = append(s.jobs, j)
			s.heads[f.Id] = at
		}
		j.ends = j.ends || f.Kind == api.Headers && f.Flags&api.End != 0
		if f.Flags&api.Whole != 0 {
			s.begins(j)
			j.whole = j.whole || j.ends
		}
	case api.Data:
		j.owed += len(f.Body)
		j.whole = j.whole || f.Flags&api.End != 0
	}
}

// begins reads what a request asks, when its first headers are there.
func (s *server) begins(j *job) {
	l, _, _, _ := s.audit.Asked(j.id)
	if len(l) < 4 || j.r.Method != "" {
		return
	}
	j.r = api.Request{Method: l[0].Value, Path: l[3].Value}
	want := answerOf(j.r)
	j.body, j.trailers = want.Body, len(want.Trailers) > 0
}

// answerOf tells what is answered to a request, by its method and its path.
func answerOf(r api.Request) api.Response {
	n := 0
	fmt.Sscanf(r.Path, "/%d", &n)
	a := api.Response{Status: 200 + n%100, Fields: []api.Field{fl("for", r.Path), fl("by", r.Method)}}
	if r.Method != "HEAD" {
		a.Body = of(n%5*(n%7), r.Path+",")
	}
	if n%4 == 0 {
		a.Fields = append(a.Fields, fl("content-length", fmt.Sprint(len(a.Body))))
	}
	if n%3 == 0 {
		a.Trailers = []api.Field{fl("sum", r.Path)}
	}
	return a
}

// open tells one of the requests that are to be answered; nil: none.
func (s *server) open() *job {
	var l []*job
	for _, j := range s.jobs {
		if !j.done && j.r.Method != "" {
			l = append(l, j)
		}
	}
	if len(l) == 0 {
		return nil
	}
	return l[s.r.Intn(len(l))]
}

// serves lets the server go on with one of its requests, by the rules.
func (s *server) serves() {
	s.t.Helper()
	if s.over {
		return
	}
	s.credits()
	j := s.open()
	switch {
	case j == nil || s.over:
	case !j.headed:
		s.answers(j)
	case j.body != "":
		s.bodies(j)
	case j.trailers:
		s.head(j, true, fl("sum", j.r.Path))
		j.done = true
	default:
		s.says(dataEnd(j.id, ""))
		j.done = true
	}
}

// credits lets the client send more, now and then.
func (s *server) credits() {
	for _, j := range s.jobs {
		if j.owed == 0 || s.r.Intn(3) == 0 {
			continue
		}
		if !j.off && !j.whole {
			s.says(update(j.id, j.owed))
		}
		s.says(update(0, j.owed))
		j.owed = 0
	}
}

func (s *server) answers(j *job) {
	if s.r.Intn(4) == 0 {
		s.head(j, false, st("103"), fl("early", "x"))
	}
	a := answerOf(j.r)
	j.headed = true
	j.done = a.Body == "" && len(a.Trailers) == 0 && s.r.Intn(2) == 0
	s.head(j, j.done, append([]api.Field{st(fmt.Sprint(a.Status))}, a.Fields...)...)
}

func (s *server) head(j *job, end bool, l ...api.Field) {
	cut, _ := block.Cut(j.id, s.packer.Pack(l...), end, api.FirstFrame)
	s.says(cut...)
}

func (s *server) bodies(j *job) {
	n := min(len(j.body), s.room, j.room, 1+s.r.Intn(api.FirstFrame))
	if n < 1 {
		return
	}
	f := data(j.id, j.body[:n])
	if pad := s.r.Intn(9); s.r.Intn(5) == 0 && n+pad+1 <= min(s.room, j.room, api.FirstFrame) {
		f.Flags |= api.Padded
		f.Body = string([]byte{byte(pad)}) + f.Body + of(pad, "\x00")
	}
	s.room, j.room = s.room-len(f.Body), j.room-len(f.Body)
	j.body = j.body[n:]
	if j.body == "" && !j.trailers && s.r.Intn(2) == 0 {
		f.Flags |= api.End
		j.done = true
	}
	s.says(f)
}

// turns lets the server change what it lets be.
func (s *server) turns() {
	switch s.r.Intn(5) {
	case 0:
		s.says(settings(pf(api.PrefMany, 1+s.r.Intn(7))))
	case 1:
		s.says(settings(pf(api.PrefWindow, 1+s.r.Intn(300)), pf(api.PrefFrame, 64+s.r.Intn(500))))
	case 2:
		s.says(settings(pf(api.PrefTable, s.r.Intn(300))))
	case 3:
		s.says(asks(s.r.Intn(9)))
	case 4:
		s.says(api.Frame{Kind: 77, Id: s.r.Intn(9), Body: "x"}, api.Frame{Kind: api.Priority, Id: 1, Body: "12345"})
	}
}

// refuses lets the server refuse a request of which it did nothing.
func (s *server) refuses() {
	if j := s.open(); j != nil && !j.headed {
		s.says(reset(j.id, api.CodeRefused))
		j.done, j.off = true, true
	}
}

// leaves lets the server go away, ahead of requests of which it did nothing.
func (s *server) leaves() {
	last := 0
	for _, j := range s.jobs {
		if j.headed || s.r.Intn(2) == 0 {
			last = max(last, j.id)
		}
	}
	s.says(away(last))
	for _, j := range s.jobs {
		j.done, j.off = j.done || j.id > last, j.off || j.id > last
	}
}

// breaks lets the server break the rules, or a stream.
func (s *server) breaks() {
	id := 0
	if n := len(s.jobs); n > 0 {
		id = s.jobs[s.r.Intn(n)].id
	}
	switch n := s.r.Intn(12); {
	case n < 5 && id > 0:
		s.says(reset(id, []int{0, 1, api.CodeFlow, api.CodeRefused, api.CodeCancel, 99}[s.r.Intn(6)]))
	case n < 6 && id > 0:
		s.says(update(id, []int{0, api.MaxWindow}[s.r.Intn(2)]))
	case n < 7 && id > 0:
		s.says(data(id, of(s.r.Intn(65), "z")))
	case n < 8 && id > 0:
		s.head(s.find(id), s.r.Intn(2) == 0, fl("a", "b"))
	case n < 9:
		s.says(away(max(0, id-2*s.r.Intn(3))))
	case n < 10:
		s.says(settings(pf(api.PrefMany, s.r.Intn(3)), pf(api.PrefWindow, s.r.Intn(100))))
	case n < 11:
		s.says(api.Frame{Kind: s.r.Intn(10), Flags: s.r.Intn(256), Id: s.r.Intn(8), Body: of(s.r.Intn(20), "\x01")})
	case s.r.Intn(4) == 0:
		s.saysBytes(of(1+s.r.Intn(20), "\xfe"))
	}
}

// The server's own answers are what a plain connection takes: else these tests would tell of it, and not of a client.
func TestServerP2404(t *testing.T) {
	for n := range 40 {
		r := request([]string{"GET", "HEAD", "POST"}[n%3], of(n*9, "b"))
		r.Path = fmt.Sprint("/", n)
		c := New(Config{Conn: conn.Config{Window: 50, First: 1, Every: 9, Wait: 9}, Conns: 1, Tries: 1, Time: 1})
		c.Do(r)
		c.Dial()
		s := meets(t, rand.New(rand.NewSource(int64(n))), c, c.Dialed(true))
		c.Step()
		body := ""
		for range 900 {
			s.hears(math.MaxInt)
			s.serves()
			b, _ := c.Read(1, 99)
			body += b
		}
		c.Step()
		x, _ := c.State(1)
		got, is := c.Response(1)
		if want := answerOf(r); x.Phase != 3 || x.Err != nil || !is || body != want.Body || fmt.Sprint(got.Status, got.Fields, got.Trailers) != fmt.Sprint(want.Status, want.Fields, want.Trailers) {
			t.Errorf("%d: %v, %v, %q, not %v", n, x, got, body, want)
		}
		if l, b, _, _ := s.audit.Asked(1); b != r.Body || l[3].Value != r.Path {
			t.Errorf("%d: asked %v, %q", n, l, b)
		}
	}
}
