package client

import (
	"fmt"
	"math"
	"math/rand"
	"slices"
	"testing"

	"bywash/api"
	"bywash/conn"
	"bywash/fail"
)

// What servers do in a run.
const (
	keeping  = iota // they answer by the rules
	refusing        // they refuse, and go away, by the rules
	breaking        // whatever comes
)

// errand is a call of a run.
type errand struct {
	number  int
	r       api.Request
	read    string
	ended   string // how it was when it was over; "": it is not
	code    api.Errno
	tries   int
	streams [][2]int // connections, and streams, that it had
	off     bool
	dropped bool
}

// leaving is a stream that a call left, to wait again.
type leaving struct {
	of     *errand
	stream [2]int
	heard  int // bytes that its server had heard by then
}

// run is a client with its callers and its servers.
type run struct {
	t        *testing.T
	r        *rand.Rand
	c        *Client
	config   Config
	kind     int
	servers  []*server
	errands  []*errand
	left     []leaving
	happened map[string]int
}

func newRun(t *testing.T, r *rand.Rand, kind int, happened map[string]int) *run {
	c := Config{
		Conn:  conn.Config{Window: 1 + r.Intn(200), First: 1 + 2*r.Intn(4), Every: 1 + r.Intn(6), Wait: 1000},
		Conns: 1 + r.Intn(3), Tries: 1 + r.Intn(4), Time: math.MaxInt,
	}
	if r.Intn(8) == 0 {
		c.Conn.First = api.MaxIds - 2*r.Intn(9)
	}
	if kind == breaking {
		c.Conn.Wait, c.Time = 1+r.Intn(9), 1+r.Intn(60)
	}
	x := &run{t: t, r: r, c: New(c), config: c, kind: kind, happened: happened}
	if x.c == nil {
		t.Fatalf("New(%v): nil", c)
	}
	return x
}

// does begins a call, whose path is of its number.
func (x *run) does() {
	n := len(x.errands) + 1
	r := request([]string{"GET", "POST", "POST", "PUT", "PATCH", "HEAD"}[x.r.Intn(6)], of(max(0, x.r.Intn(200)-100)*x.r.Intn(4), "b"))
	r.Path = fmt.Sprint("/", n)
	for range x.r.Intn(3) {
		r.Fields = append(r.Fields, fl([]string{"a", "b", "c"}[x.r.Intn(3)], of(x.r.Intn(40), "v")))
	}
	if x.r.Intn(4) == 0 {
		r.Trailers = []api.Field{fl("t", of(x.r.Intn(9), "v"))}
	}
	id, e := x.c.Do(r)
	if e == api.ErrBusy {
		return
	}
	if id != n || e != api.OK {
		x.t.Fatalf("Do: %d, %d, not %d", id, e, n)
	}
	x.errands = append(x.errands, &errand{number: n, r: r})
}

// looks holds what may become of each call behind one thing that happened.
func (x *run) looks() {
	x.t.Helper()
	for _, o := range x.errands {
		s, is := x.c.State(o.number)
		if is == o.dropped {
			x.t.Fatalf("State(%d): %v", o.number, is)
		}
		if o.dropped {
			continue
		}
		told := fmt.Sprint(s.Phase, s.Conn, s.Stream, s.Tries)
		if s.Err != nil {
			told += s.Err.Error()
		}
		if o.ended != "" && o.ended != told {
			x.t.Fatalf("%d was over, %s, and became %s", o.number, o.ended, told)
		}
		if s.Tries > x.config.Tries || s.Tries < o.tries {
			x.t.Fatalf("%d: %d tries behind %d", o.number, s.Tries, o.tries)
		}
		o.tries = s.Tries
		if s.Phase == 3 && o.ended == "" {
			x.happened[fmt.Sprintf("over, %v, tried more than once %v", s.Err == nil, s.Tries > 1)]++
			o.ended, o.code = told, last(s.Err)
		}
	}
}

// last tells the code of the error that is below all others.
func last(err error) api.Errno {
	for e := err; e != nil; {
		f := e.(*fail.Failure)
		err, e = f, f.Err
	}
	return fail.Code(err)
}

// steps lets the client go on, and notes which streams are left, and begun.
func (x *run) steps() {
	x.t.Helper()
	was := map[int]State{}
	for _, o := range x.errands {
		was[o.number], _ = x.c.State(o.number)
	}
	queue := x.c.Waiting()
	x.c.Step()
	var stay []int
	for _, id := range x.c.Waiting() {
		if slices.Contains(queue, id) {
			stay = append(stay, id)
		}
	}
	if !slices.Equal(stay, queue[len(queue)-len(stay):]) {
		x.t.Fatalf("of %v that waited %v still wait", queue, stay)
	}
	for _, o := range x.errands {
		s, _ := x.c.State(o.number)
		now, then := [2]int{s.Conn, s.Stream}, [2]int{was[o.number].Conn, was[o.number].Stream}
		if now == then {
			continue
		}
		if then[0] != 0 {
			x.left = append(x.left, leaving{o, then, x.servers[then[0]-1].heard})
			o.read = ""
		}
		if now[0] != 0 {
			o.streams = append(o.streams, now)
		}
	}
}

// dials dials, if the client wants it.
func (x *run) dials(ok bool) {
	x.t.Helper()
	if !x.c.Dial() {
		return
	}
	switch k := x.c.Dialed(ok); {
	case ok && k == len(x.servers)+1:
		x.servers = append(x.servers, meets(x.t, x.r, x.c, k))
	case ok || k != 0:
		x.t.Fatalf("Dialed(%v): %d behind %d", ok, k, len(x.servers))
	default:
		x.happened["no connection"]++
	}
}

func (x *run) reads(o *errand, n int) {
	b, _ := x.c.Read(o.number, n)
	o.read += b
}

// drops holds what a call that is over was answered by, and drops it.
func (x *run) drops(o *errand) {
	x.t.Helper()
	if o.dropped || o.ended == "" {
		return
	}
	for {
		b, e := x.c.Read(o.number, 1+x.r.Intn(99))
		o.read += b
		if b == "" || e != api.OK {
			break
		}
	}
	x.answered(o)
	if x.r.Intn(6) > 0 {
		o.dropped = true
		if !x.c.Drop(o.number) {
			x.t.Fatalf("Drop(%d): false", o.number)
		}
	}
}

// answered holds what came of a call that is over.
func (x *run) answered(o *errand) {
	x.t.Helper()
	if o.off || x.kind == breaking {
		return
	}
	got, is := x.c.Response(o.number)
	if o.code == api.OK {
		want := answerOf(o.r)
		if !is || got.Status != want.Status || !slices.Equal(got.Fields, want.Fields) || !slices.Equal(got.Trailers, want.Trailers) || o.read != want.Body {
			x.t.Fatalf("%d is answered by %v, %q, not by %v", o.number, got, o.read, want)
		}
		return
	}
	if x.kind == keeping || o.tries != x.config.Tries || !slices.Contains([]api.Errno{api.ErrRefused, api.ErrGone, api.ErrDial}, o.code) {
		x.t.Fatalf("%d is over: %s", o.number, o.ended)
	}
}

// goes lets one thing happen.
func (x *run) goes() {
	x.t.Helper()
	switch n := x.r.Intn(40); {
	case n < 6:
		x.does()
	case n < 12:
		x.steps()
	case n < 14:
		x.dials(x.kind == keeping || x.r.Intn(3) > 0)
	case n < 16:
		x.c.Tick()
		x.happened["Tick"]++
	case n < 26:
		if len(x.servers) > 0 {
			x.serves(x.servers[max(x.r.Intn(len(x.servers)), len(x.servers)-1-x.r.Intn(3))])
		}
	case n < 38:
		if o := x.some(); o != nil && n < 32 {
			x.reads(o, x.r.Intn(60))
		} else if o != nil && n < 36 {
			x.drops(o)
		} else if o != nil && n == 36 && x.r.Intn(3) == 0 {
			o.off = x.c.Cancel(o.number) == api.OK || o.off
		}
	}
}

// some tells one of the later calls.
func (x *run) some() *errand {
	n := len(x.errands)
	if n == 0 {
		return nil
	}
	return x.errands[n-1-x.r.Intn(min(n, 16))]
}

// serves lets a server hear, and say something.
func (x *run) serves(s *server) {
	x.t.Helper()
	n := []int{math.MaxInt, math.MaxInt, x.r.Intn(200), x.r.Intn(30), 0}[x.r.Intn(5)]
	if s.heard == 0 {
		n = math.MaxInt
	}
	s.hears(n)
	switch n := x.r.Intn(30); {
	case s.over:
	case n < 3:
		s.turns()
	case n < 12 && x.kind >= refusing:
		s.refuses()
	case n < 14 && x.kind >= refusing && x.r.Intn(3) == 0:
		s.leaves()
	case n < 20 && x.kind == breaking:
		s.breaks()
	}
	for range x.r.Intn(4) {
		s.serves()
	}
}

// finishes lets all go on till all calls are over.
func (x *run) finishes() {
	x.t.Helper()
	for n := 0; slices.ContainsFunc(x.errands, func(o *errand) bool { return o.ended == "" }); n++ {
		if n > 3000 {
			x.t.Fatalf("not all are over: %v wait", x.c.Waiting())
		}
		x.steps()
		x.dials(true)
		for _, s := range x.servers {
			if !s.over {
				s.hears(math.MaxInt)
				s.serves()
			}
		}
		for _, o := range x.errands {
			x.reads(o, 99)
		}
		if x.kind == breaking {
			x.c.Tick()
		}
		x.looks()
	}
	for _, o := range x.errands {
		x.drops(o)
	}
	x.looks()
}

// holds holds what all servers heard in all.
func (x *run) holds() {
	x.t.Helper()
	times := map[string]int{}
	for _, s := range x.servers {
		s.got(s.c.Take(s.number, math.MaxInt) + s.conn.Take(math.MaxInt))
		for _, j := range s.jobs {
			l, body, trailers, _ := s.audit.Asked(j.id)
			n := 0
			fmt.Sscanf(l[3].Value, "/%d", &n)
			r := x.errands[n-1].r
			if l[0].Value != r.Method || !slices.Equal(l[4:], r.Fields) || j.whole && (body != r.Body || !slices.Equal(trailers, r.Trailers)) {
				x.t.Fatalf("connection %d, stream %d asks %v, %q, %v, not %v", s.number, j.id, l, body, trailers, r)
			}
			if !slices.Contains(x.errands[n-1].streams, [2]int{s.number, j.id}) {
				x.t.Fatalf("%d goes out as stream %d of connection %d, not %v", n, j.id, s.number, x.errands[n-1].streams)
			}
			if times[r.Path]++; times[r.Path] > x.config.Tries {
				x.t.Fatalf("%d goes out %d times", n, times[r.Path])
			}
		}
	}
	for _, l := range x.left {
		s, id := x.servers[l.stream[0]-1], l.stream[1]
		begun, is := s.heads[id]
		if !is {
			x.t.Fatalf("stream %d of connection %d never went out", id, s.number)
		}
		safe := slices.Contains([]string{"GET", "PUT", "HEAD"}, l.of.r.Method)
		written, undone := l.heard > begun, s.refused[id] || id > s.last
		x.happened[fmt.Sprintf("left: safe %v, written %v, undone %v", safe, written, undone)]++
		if !safe && written && !undone {
			x.t.Fatalf("%d, a %s, was written on stream %d of connection %d, and was sent again", l.of.number, l.of.r.Method, id, s.number)
		}
	}
}

// runs lets so many runs of a kind go by.
func runs(t *testing.T, seed int64, kind, n int) map[string]int {
	t.Helper()
	r := rand.New(rand.NewSource(seed))
	happened := map[string]int{}
	for range n {
		x := newRun(t, r, kind, happened)
		for range 100 + r.Intn(300) {
			x.goes()
			x.looks()
		}
		x.finishes()
		x.holds()
	}
	return happened
}

// Over servers that keep the rules each call is answered by what its own request asks.
func TestKeepingP2404(t *testing.T) {
	happened := runs(t, 24041, keeping, 150)
	enough(t, happened, 100, "over, true, tried more than once false", "over, false, tried more than once false", "Tick")
	if happened["over, false, tried more than once true"] > 0 || happened["over, true, tried more than once true"] > 0 {
		t.Error("something was sent again, though no server refused it")
	}
}

// Over servers that refuse, and go away, each is answered, or was tried as often as may be.
func TestRefusingP2404(t *testing.T) {
	happened := runs(t, 24042, refusing, 250)
	enough(t, happened, 100, "over, true, tried more than once false", "over, true, tried more than once true",
		"over, false, tried more than once false", "over, false, tried more than once true", "no connection",
		"left: safe true, written true, undone true", "left: safe false, written true, undone true")
}

// Over servers that do whatever comes, nothing is over twice, nor sent oftener than may be.
func TestBreakingP2404(t *testing.T) {
	happened := runs(t, 24043, breaking, 300)
	enough(t, happened, 30, "over, true, tried more than once false", "over, true, tried more than once true",
		"over, false, tried more than once false", "over, false, tried more than once true", "no connection",
		"left: safe true, written true, undone true", "left: safe false, written true, undone true",
		"left: safe true, written false, undone false", "left: safe false, written false, undone false",
		"left: safe true, written true, undone false")
}
