package client

import (
	"fmt"
	"math"
	"math/rand"
	"slices"
	"testing"

	"bywash/api"
	"bywash/block"
	"bywash/conn"
	"bywash/fail"
	"bywash/pack"
)

// tale is a call by the chapter's words.
type tale struct {
	number, phase, age, tries int
	asks                      api.Request
	at                        *twin // nil: it has no stream
	stream, ahead             int
	code                      api.Errno // its Err's
	off                       bool      // it was broken off
}

// twin is a connection of the test's own, to which all is done that is done to the client's.
type twin struct {
	number int
	c      *conn.Conn
	there  bool         // in the pool
	packer *pack.Packer // the server's
	last   int          // the greatest stream
}

// plain is a client by the chapter's words.
type plain struct {
	t        *testing.T
	r        *rand.Rand
	x        *Client
	config   Config
	last     int
	known    []*tale
	queue    []int
	twins    []*twin // all that ever were
	dials    bool
	wild     int    // one of so many frames breaks the connection
	before   string // how all was ahead of a call
	happened map[string]int
}

func (p *plain) note(what string) { p.happened[what]++ }

func (p *plain) one(n int) bool { return p.r.Intn(n) == 0 }

func pick[T any](p *plain, l ...T) T { return l[p.r.Intn(len(l))] }

func (p *plain) find(id int) *tale {
	for _, x := range p.known {
		if x.number == id {
			return x
		}
	}
	return nil
}

// lines tells the connections of the pool.
func (p *plain) lines() []*twin {
	var l []*twin
	for _, w := range p.twins {
		if w.there {
			l = append(l, w)
		}
	}
	return l
}

// reach tells a connection that is in the pool, or that a call keeps.
func (p *plain) reach(k int) *twin {
	if k < 1 || k > len(p.twins) {
		return nil
	}
	w := p.twins[k-1]
	keeps := slices.ContainsFunc(p.known, func(x *tale) bool { return x.at == w })
	if !w.there && keeps {
		p.note("a connection that is kept")
	}
	if w.there || keeps {
		return w
	}
	return nil
}

func (p *plain) going() int {
	n := 0
	for _, x := range p.known {
		if x.phase != 3 {
			n++
		}
	}
	return n
}

// settle is P2402's first sentence.
func (p *plain) settle(x *tale, code api.Errno) {
	written := false
	if x.at != nil {
		_, taken := x.at.c.Count()
		written = taken > x.ahead
	}
	word := fmt.Sprintf("%v %v", map[bool]string{true: "written", false: "not written"}[written], code)
	if !again(x.asks.Method, code, written, x.tries, p.config.Tries) {
		p.note("settled: over, " + word)
		x.phase, x.code = 3, code
		return
	}
	p.note("settled: again, " + word)
	if x.at != nil {
		x.at.c.Forget(x.stream)
	}
	x.phase, x.at, x.stream = 1, nil, 0
	p.queue = append([]int{x.number}, p.queue...)
}

// off is a call that is broken off.
func (p *plain) off(x *tale, code api.Errno) {
	if x.phase == 1 {
		p.note(fmt.Sprint("broken off while it waits: ", code))
		p.queue = slices.DeleteFunc(p.queue, func(id int) bool { return id == x.number })
	} else {
		e := x.at.c.Cancel(x.stream, code)
		p.note(fmt.Sprint("broken off under way: ", code, ", ", e == api.OK))
		if e == api.ErrClosed {
			i, _ := x.at.c.Info(x.stream)
			x.at.c.Read(x.stream, i.Waits)
			if i.Waits > 0 {
				p.note("what waits is let go")
			}
		}
	}
	x.phase, x.code, x.off = 3, code, true
}

func (p *plain) do() {
	r := p.request()
	handed := r
	handed.Fields, handed.Trailers = slices.Clone(r.Fields), slices.Clone(r.Trailers)
	id, e := p.x.Do(handed)
	for i := range handed.Fields {
		handed.Fields[i] = fl("spoiled", "")
	}
	for i := range handed.Trailers {
		handed.Trailers[i] = fl("spoiled", "")
	}
	want, wantE := 0, api.OK
	switch {
	case r.Path == "":
		p.note("Do: ErrArg")
		wantE = api.ErrArg
	case p.going() >= 12:
		p.note("Do: ErrBusy")
		wantE = api.ErrBusy
	default:
		p.note("Do")
		p.last++
		want = p.last
		p.known = append(p.known, &tale{number: want, phase: 1, asks: r})
		p.queue = append(p.queue, want)
	}
	p.same("Do", fmt.Sprint(id, e), fmt.Sprint(want, wantE))
}

func (p *plain) cancel(id int) {
	want, x := api.OK, p.find(id)
	switch {
	case x == nil:
		p.note("Cancel: ErrNone")
		want = api.ErrNone
	case x.phase == 3:
		p.note("Cancel: ErrClosed")
		want = api.ErrClosed
	default:
		p.off(x, api.ErrCancel)
	}
	p.same(fmt.Sprintf("Cancel(%d)", id), p.x.Cancel(id), want)
}

func (p *plain) step() {
	for i := len(p.known) - 1; i >= 0; i-- {
		x := p.known[i]
		if x.phase != 2 {
			continue
		}
		info, _ := x.at.c.Info(x.stream)
		switch {
		case info.Over && info.Done:
			p.note(fmt.Sprint("answered: ", info.Err != api.OK))
			x.phase = 3
		case info.Over && info.Err != api.OK:
			p.settle(x, info.Err)
		case info.Done:
			p.note("Done, and not Over")
		}
	}
	for _, w := range p.lines() {
		if w.c.Dead() != api.OK || w.c.Gone() && w.c.Busy() == 0 {
			p.note(fmt.Sprint("Sweep: ", w.c.Dead() != api.OK))
			w.there = false
		}
	}
	for p.starts() {
	}
	p.x.Step()
}

// starts lets the first that waits have a stream; false, if none waits, or nothing can.
func (p *plain) starts() bool {
	for i, w := range p.lines() {
		if len(p.queue) == 0 {
			return false
		}
		if !w.c.Can() {
			continue
		}
		x := p.find(p.queue[0])
		p.queue = p.queue[1:]
		x.ahead, _ = w.c.Count()
		id, e := w.c.Open(x.asks)
		if e != api.OK {
			p.t.Fatalf("Open of one that Can: %d", e)
		}
		x.phase, x.at, x.stream = 2, w, id
		x.tries++
		w.last = id
		p.note(fmt.Sprint("a stream: ", i == 0, ", ", x.tries == 1))
		return true
	}
	return false
}

func (p *plain) dial() {
	can, lives := false, 0
	for _, w := range p.lines() {
		can = can || w.c.Can()
		if w.c.Dead() == api.OK && !w.c.Gone() {
			lives++
		}
	}
	want := len(p.queue) > 0 && !can && !p.dials && lives < p.config.Conns
	p.note(fmt.Sprint("Dial: ", want))
	p.same("Dial", p.x.Dial(), want)
	p.dials = p.dials || want
}

func (p *plain) dialed(ok bool) {
	want := 0
	switch {
	case !p.dials:
		p.note("Dialed: nobody dials")
	case ok:
		p.note("Dialed: true")
		w := &twin{number: len(p.twins) + 1, c: conn.New(p.config.Conn), there: true, packer: pack.NewPacker()}
		p.twins = append(p.twins, w)
		want = w.number
	case len(p.queue) == 0:
		p.note("Dialed: false, and none waits")
	default:
		x := p.find(p.queue[0])
		p.queue = p.queue[1:]
		x.tries++
		p.settle(x, api.ErrDial)
	}
	p.dials = false
	p.same(fmt.Sprintf("Dialed(%v)", ok), p.x.Dialed(ok), want)
	if want != 0 && !p.one(30) {
		p.feed(want, bytesOf(settings()))
	}
}

func (p *plain) feed(k int, b string) {
	want := api.ErrNone
	if w := p.reach(k); w != nil {
		want = w.c.Feed(b)
	} else {
		p.note("Feed: ErrNone")
	}
	p.same(fmt.Sprintf("Feed(%d, %q)", k, b), p.x.Feed(k, b), want)
}

func (p *plain) take(k, n int) {
	want := ""
	if w := p.reach(k); w != nil {
		want = w.c.Take(n)
	}
	p.same(fmt.Sprintf("Take(%d, %d)", k, n), p.x.Take(k, n), want)
}

func (p *plain) tick() {
	for _, w := range p.lines() {
		if w.c.Tick() == api.ErrLate {
			p.note("Tick: one breaks")
		}
	}
	for _, x := range p.known {
		if x.phase == 3 {
			continue
		}
		if x.age++; x.age >= p.config.Time {
			p.off(x, api.ErrLate)
		}
	}
	p.x.Tick()
}

func (p *plain) read(id, n int) {
	want, wantE, x := "", api.OK, p.find(id)
	switch {
	case x == nil:
		wantE = api.ErrNone
	case x.phase == 2, x.phase == 3 && x.code == api.OK:
		want, wantE = x.at.c.Read(x.stream, n)
		p.note(fmt.Sprint("Read: ", x.phase, want != "", wantE != api.OK))
	default:
		p.note("Read: ErrState")
		wantE = api.ErrState
	}
	got, e := p.x.Read(id, n)
	p.same(fmt.Sprintf("Read(%d, %d)", id, n), fmt.Sprintf("%q %d", got, e), fmt.Sprintf("%q %d", want, wantE))
}

func (p *plain) drop(id int) {
	want, x := false, p.find(id)
	if x != nil && x.phase == 3 {
		want = true
		if x.at != nil {
			x.at.c.Forget(x.stream)
		}
		p.note(fmt.Sprint("Drop: ", x.at != nil, x.code != api.OK))
		p.known = slices.DeleteFunc(p.known, func(o *tale) bool { return o == x })
	} else {
		p.note("Drop: false")
	}
	p.same(fmt.Sprintf("Drop(%d)", id), p.x.Drop(id), want)
}

func (p *plain) same(what string, got, want any) {
	p.t.Helper()
	if got != want {
		p.t.Fatalf("%s told %#v, not %#v", what, got, want)
	}
}

// words tells an error's words by the chapters' words.
func (x *tale) words() string {
	switch {
	case x.code == api.OK:
		return ""
	case x.off:
		return fail.Name(x.code)
	case x.tries > 1:
		return "again: call: " + fail.Name(x.code)
	}
	return "call: " + fail.Name(x.code)
}

// holds holds all that the client tells of itself.
func (p *plain) holds() {
	p.t.Helper()
	ids := []int{0, p.last + 1, p.r.Intn(p.last + 1), p.r.Intn(p.last + 1)}
	for _, x := range p.known {
		ids = append(ids, x.number)
	}
	for _, id := range ids {
		x := p.find(id)
		s, is := p.x.State(id)
		got, want, words := State{}, State{}, ""
		got, got.Err = s, nil
		if x != nil {
			want = State{Phase: x.phase, Stream: x.stream, Tries: x.tries}
			if x.at != nil {
				want.Conn = x.at.number
			}
			words = x.words()
		}
		told := ""
		if s.Err != nil {
			told = s.Err.Error()
		}
		if is != (x != nil) || got != want || told != words {
			p.t.Fatalf("State(%d): %v %q, %v, not %v %q", id, got, told, is, want, words)
		}
		p.holdsResponse(id, x)
	}
	if l := p.x.Waiting(); !slices.Equal(l, p.queue) {
		p.t.Fatalf("Waiting: %v, not %v", l, p.queue)
	}
	var there []int
	for _, w := range p.lines() {
		there = append(there, w.number)
	}
	if l := p.x.Conns(); !slices.Equal(l, there) {
		p.t.Fatalf("Conns: %v, not %v", l, there)
	}
	for _, w := range p.twins[max(0, len(p.twins)-6):] { // nothing that is said may differ, nor wait
		c := p.x.Pool().At(w.number)
		if (c != nil) != w.there {
			p.t.Fatalf("At(%d): %p", w.number, c)
		}
		if c != nil {
			a, b := c.Count()
			d, e := w.c.Count()
			p.same("Count", [2]int{a, b}, [2]int{d, e})
		}
	}
}

func (p *plain) holdsResponse(id int, x *tale) {
	p.t.Helper()
	var want api.Response
	if x != nil && x.at != nil {
		i, e := x.at.c.Info(x.stream)
		if e != api.OK {
			p.t.Fatalf("the stream of %d is not known", id)
		}
		if i.Status != 0 {
			want = api.Response{Status: i.Status, Fields: i.Fields, Trailers: i.Trailers}
		}
	}
	got, is := p.x.Response(id)
	if is != (want.Status != 0) || got.Status != want.Status || got.Body != "" || !slices.Equal(got.Fields, want.Fields) || !slices.Equal(got.Trailers, want.Trailers) {
		p.t.Fatalf("Response(%d): %v, %v, not %v", id, got, is, want)
	}
}

func (p *plain) request() api.Request {
	r := request(pick(p, "GET", "GET", "POST", "POST", "PUT", "HEAD", "PATCH"), of(pick(p, 0, 0, 0, 1, p.r.Intn(60), p.r.Intn(401)), "b"))
	r.Path = fmt.Sprint("/", p.last+1)
	for range p.r.Intn(3) {
		r.Fields = append(r.Fields, fl(pick(p, "a", "b", "c"), of(p.r.Intn(30), "v")))
	}
	if p.one(4) {
		r.Trailers = []api.Field{fl("t", of(p.r.Intn(9), "v"))}
	}
	if p.one(30) {
		r.Path = ""
	}
	return r
}

// id tells a call, most often one that is known.
func (p *plain) id() int {
	if len(p.known) == 0 || p.one(12) {
		return pick(p, 0, -1, p.last, p.last+1, p.r.Intn(p.last+2), math.MaxInt, math.MinInt)
	}
	return pick(p, p.known...).number
}

// reader tells a call, most often one of which there is something to read.
func (p *plain) reader() int {
	for _, x := range p.known {
		if x.at == nil || p.one(6) {
			continue
		}
		if i, _ := x.at.c.Info(x.stream); i.Waits > 0 {
			return x.number
		}
	}
	return p.id()
}

// k tells a connection, most often one of the last ones.
func (p *plain) k() int {
	n := len(p.twins)
	if n == 0 || p.one(20) {
		return pick(p, 0, -1, n+1, p.r.Intn(n+1), math.MaxInt, math.MinInt)
	}
	return n - p.r.Intn(min(n, 4))
}

// serves lets a server say something that the calls of its connection hang on.
func (p *plain) serves(w *twin) {
	var l []*tale
	for _, x := range p.known {
		if x.at == w {
			l = append(l, x)
		}
	}
	id := pick(p, w.last, w.last, w.last, min(w.last+2, api.MaxIds))
	if len(l) > 0 && !p.one(60) {
		id = pick(p, l...).stream
	}
	i, _ := w.c.Info(id)
	told, end := i.Status != 0 && !i.Done, p.one(4)
	switch what := p.r.Intn(20); {
	case what < 13 && i.Status == 0 && !i.Over && w.last > 0:
		l := []api.Field{st(pick(p, "200", "200", "404", "204", "103", "500")), fl("n", fmt.Sprint(id))}
		if p.one(15) {
			l = append(l, pick(p, fl("content-length", "3"), fl("A", "b"), st("200")))
		}
		p.says(w, id, end && l[0].Value != "103", l...)
	case what < 13 && told && !i.Over:
		f := data(id, of(pick(p, 0, 1, p.r.Intn(9), p.r.Intn(20), p.r.Intn(20), p.r.Intn(65)), "d"))
		if end {
			f.Flags = api.End
		}
		p.feed(w.number, bytesOf(f))
	case what < 14 && told && !i.Over:
		p.says(w, id, true, fl("trailer", "x"))
	case what < 15 && w.last > 0:
		p.feed(w.number, bytesOf(reset(id, pick(p, api.CodeRefused, api.CodeRefused, api.CodeFlow, api.CodeCancel, api.CodeNone, 99))))
	default:
		p.servesAll(w, id)
	}
}

// servesAll lets a server say something that all of its connection hangs on.
func (p *plain) servesAll(w *twin, id int) {
	switch p.r.Intn(7) {
	case 0, 1:
		p.feed(w.number, bytesOf(settings(pf(api.PrefMany, pick(p, 0, 1, 2, 6, 6, 6)))))
	case 2:
		p.feed(w.number, bytesOf(update(0, 1+p.r.Intn(200))))
	case 3:
		if w.last > 0 {
			p.feed(w.number, bytesOf(update(id, pick(p, 0, 1, 50, 200, api.MaxWindow))))
		}
	case 4:
		b := bytesOf(asks(p.r.Intn(9)))
		p.feed(w.number, b[:8])
		p.feed(w.number, b[8:])
	case 5:
		if p.one(3) {
			p.feed(w.number, bytesOf(away(pick(p, 0, id, id, api.MaxIds))))
		}
	case 6:
		if p.one(p.wild) {
			p.feed(w.number, bytesOf(promise()))
		}
	}
}

func (p *plain) says(w *twin, id int, end bool, l ...api.Field) {
	cut, _ := block.Cut(id, w.packer.Pack(l...), end, api.FirstFrame)
	p.feed(w.number, bytesOf(cut...))
}

// answersPings lets most servers tell that they are there.
func (p *plain) answersPings() {
	b := ""
	for n := range 9 {
		b += bytesOf(echo(n))
	}
	for _, w := range p.lines() {
		if w.c.Dead() == api.OK && !p.one(3) {
			p.feed(w.number, b)
		}
	}
}

// goes lets one thing happen.
func (p *plain) goes() {
	switch n := p.r.Intn(100); {
	case n < 10:
		p.do()
	case n < 13:
		p.cancel(p.id())
	case n < 27:
		p.step()
	case n < 32:
		p.dial()
	case n < 39:
		p.dialed(!p.one(3))
	case n < 67:
		if w := p.reach(p.k()); w != nil && w.c.Dead() == api.OK {
			for range 1 + p.r.Intn(3) {
				p.serves(w)
			}
		} else {
			p.feed(p.k(), pick(p, "", bytesOf(asks(1)), bytesOf(settings())))
		}
	case n < 79:
		p.take(p.k(), pick(p, 0, -1, 1, 9, p.r.Intn(100), p.r.Intn(300), math.MaxInt, math.MaxInt))
	case n < 82:
		p.tick()
		p.answersPings()
	case n < 94:
		p.read(p.reader(), pick(p, 0, -1, 1, p.r.Intn(30), 99, math.MaxInt))
	default:
		p.drop(p.id())
	}
}

func drawnConfig(r *rand.Rand) Config {
	c := Config{
		Conn:  conn.Config{Window: 1 + r.Intn(200), First: 1 + 2*r.Intn(4), Every: 1 + r.Intn(6), Wait: 1 + r.Intn(6)},
		Conns: 1 + r.Intn(3), Tries: 1 + r.Intn(4), Time: 1 + r.Intn(1+r.Intn(40)),
	}
	if r.Intn(6) == 0 {
		c.Conn.First = api.MaxIds - 2*r.Intn(9)
	}
	if r.Intn(4) == 0 {
		c.Time = math.MaxInt
	}
	return c
}

// enough holds that each of these happened often enough.
func enough(t *testing.T, happened map[string]int, least int, l ...string) {
	t.Helper()
	for _, what := range l {
		if happened[what] < least {
			t.Errorf("%q: %d times: too few to say anything", what, happened[what])
		}
	}
}

func TestDrawnP2404(t *testing.T) {
	r := rand.New(rand.NewSource(2404))
	happened := map[string]int{}
	for range 600 {
		c := drawnConfig(r)
		p := &plain{t: t, r: r, x: New(c), config: c, wild: 1 + r.Intn(60), happened: happened}
		if p.x == nil {
			t.Fatalf("New(%v): nil", c)
		}
		for range 250 {
			p.goes()
			p.holds()
		}
		for _, w := range p.twins {
			p.take(w.number, math.MaxInt)
		}
	}
	enough(t, happened, 12, all()...)
	if len(happened) != len(all()) {
		t.Errorf("%d sorts happened, not %d", len(happened), len(all()))
	}
}

// all tells what may happen, in words.
func all() []string {
	l := []string{
		"Do", "Do: ErrArg", "Do: ErrBusy", "Dial: false", "Dial: true",
		"Dialed: false, and none waits", "Dialed: nobody dials", "Dialed: true",
		"Cancel: ErrClosed", "Cancel: ErrNone", "what waits is let go",
		"Done, and not Over", "answered: false", "answered: true",
		"Sweep: false", "Sweep: true", "Tick: one breaks", "a connection that is kept", "Feed: ErrNone",
		"Drop: false", "Drop: false true", "Drop: true false", "Drop: true true", "Read: ErrState",
		"settled: again, not written 20", "settled: over, not written 20",
	}
	both := []string{"false", "true"}
	for _, x := range both {
		for _, y := range both {
			l = append(l, "a stream: "+x+", "+y)
			if x != y || x == "false" {
				l = append(l, "Read: 2 "+x+" "+y, "Read: 3 "+x+" "+y)
			}
		}
		l = append(l, "broken off under way: 17, "+x, "broken off under way: 18, "+x)
	}
	l = append(l, "broken off while it waits: 17", "broken off while it waits: 18")
	for _, written := range []string{"not written ", "written "} {
		for _, code := range []api.Errno{api.ErrGone, api.ErrRefused, api.ErrReset, api.ErrDead} {
			l = append(l, fmt.Sprint("settled: again, ", written, int(code)), fmt.Sprint("settled: over, ", written, int(code)))
		}
		for _, code := range []api.Errno{api.ErrCancel, api.ErrProto, api.ErrName, api.ErrOrder, api.ErrFlow, api.ErrLength} {
			l = append(l, fmt.Sprint("settled: over, ", written, int(code)))
		}
	}
	return l
}
