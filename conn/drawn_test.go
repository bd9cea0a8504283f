package conn

import (
	"fmt"
	"math"
	"math/rand"
	"slices"
	"testing"

	"bywash/api"
	"bywash/pack"
)

// drawer draws what callers and a server do.
type drawer struct {
	r      *rand.Rand
	s      *story       // what the connection is at, as far as it is known
	packer *pack.Packer // the server's
	wild   int          // one of so many frames is against all rules
}

func (d *drawer) one(n int) bool { return d.r.Intn(n) == 0 }

func pick[T any](d *drawer, l ...T) T { return l[d.r.Intn(len(l))] }

func drawnConfig(r *rand.Rand) Config {
	c := Config{Window: 1 + r.Intn(120), First: 1 + 2*r.Intn(5), Every: 1 + r.Intn(6), Wait: 1 + r.Intn(6)}
	switch r.Intn(6) {
	case 0:
		c.Window = 1 + r.Intn(4)
	case 1:
		c.Window = 65535 - r.Intn(3)
	}
	if r.Intn(8) == 0 {
		c.First = api.MaxIds - 2*r.Intn(8)
	}
	return c
}

// given tells a stream that was: most often one that is open, and of which that holds; 0: none was.
func (d *drawer) given(holds func(x *tale) bool) int {
	l := slices.DeleteFunc(d.s.open(), func(x *tale) bool { return !holds(x) })
	if len(l) > 0 && !d.one(15) {
		return pick(d, l...).id
	}
	if n := (d.s.next - d.s.config.First) / 2; n > 0 && d.one(3) {
		return d.s.config.First + 2*max(d.r.Intn(n), d.r.Intn(n))
	}
	return 0
}

// What may hold of a stream.
func anyOne(*tale) bool   { return true }
func asked(x *tale) bool  { return x.reader.Status() == 0 && !x.theyEnded }
func told(x *tale) bool   { return x.reader.Status() != 0 && !x.theyEnded }
func done(x *tale) bool   { return x.reader.Done() }
func reads(x *tale) bool  { return x.waits != "" }
func sends(x *tale) bool  { return !x.weEnded }
func closed(x *tale) bool { return false }

// id tells a stream as given, now and then one that was not given.
func (d *drawer) id(holds func(x *tale) bool) int {
	if d.one(d.wild) {
		return pick(d, 0, 1, 2, d.s.next, d.s.next+2, d.s.next-1, d.s.config.First-2, api.MaxIds, d.r.Intn(api.MaxIds)) & api.MaxIds
	}
	return d.given(holds)
}

func (d *drawer) text(most int) string {
	b := make([]byte, d.r.Intn(most+1))
	for i := range b {
		b[i] = byte('a' + d.r.Intn(26))
	}
	return string(b)
}

func (d *drawer) fields(most int) []api.Field {
	var l []api.Field
	for range d.r.Intn(most + 1) {
		l = append(l, fl(pick(d, "a", "b", "cookie", "x-y"), pick(d, "", "u", "vvv", d.text(8), d.text(60))))
	}
	return l
}

func (d *drawer) request() api.Request {
	r := get(pick(d, "/", "/p", "/"+d.text(30)), d.fields(3)...)
	r.Method = pick(d, "GET", "GET", "POST", "HEAD", "PUT")
	r.Body = of(pick(d, 0, 0, 1, d.r.Intn(30), 64, 65, d.r.Intn(200), d.r.Intn(401)), string(rune('a'+d.r.Intn(26))))
	if d.one(3) {
		r.Trailers = d.fields(2)
	}
	if d.one(25) {
		all := wrongs()
		r = all[pick(d, "body", "trailers", "name", "value", "order", "path", "zero", "sum", "length", "digits")].r
	}
	return r
}

// head tells headers of the server's: a response's, or trailers.
func (d *drawer) head(x *tale) ([]api.Field, bool) {
	if x != nil && x.reader.Status() != 0 && !d.one(12) {
		return d.fields(2), !d.one(12)
	}
	l := []api.Field{st(pick(d, "200", "200", "204", "304", "404", "103", "500"))}
	l = append(l, d.fields(3)...)
	if d.one(8) {
		l = append(l, fl("content-length", fmt.Sprint(pick(d, 0, 3, 20, 60, d.r.Intn(100)))))
	}
	if d.one(12) {
		l = append(l, pick(d, st("200"), fl("connection", "x"), fl("content-length", "x"), fl("a", " ")))
	}
	if d.one(30) {
		l = slices.Repeat(l, 20) // more than may be unpacked
	}
	return l, d.one(5) && l[0].Value != "103"
}

// cut cuts a block as a server may: anywhere, with padding and a priority ahead.
func (d *drawer) cut(id int, b string, end bool) []api.Frame {
	f := api.Frame{Kind: api.Headers, Id: id}
	if end {
		f.Flags = api.End
	}
	tail := ""
	if d.one(5) {
		n := d.r.Intn(9)
		f.Flags |= api.Padded
		f.Body, tail = string([]byte{byte(n)}), of(n, "p")
	}
	if d.one(5) {
		f.Flags |= api.Weighed
		f.Body += "12345"
	}
	var l []api.Frame
	for {
		n := min(len(b), 64-len(f.Body)-len(tail))
		if d.one(3) {
			n = min(n, d.r.Intn(65))
		}
		f.Body += b[:n] + tail
		b, tail = b[n:], ""
		if b == "" && !d.one(10) {
			f.Flags |= api.Whole
			return append(l, f)
		}
		l = append(l, f)
		f = api.Frame{Kind: api.Continue, Id: id}
	}
}

func (d *drawer) data(id int) api.Frame {
	most := 64
	if x := d.s.known[id]; x != nil && !x.over && !d.one(20) {
		most = min(most, x.room)
	}
	if !d.one(d.wild) {
		most = min(most, d.s.room)
	}
	n := pick(d, 0, 1, d.r.Intn(10), d.r.Intn(65), 64)
	if d.one(3) {
		n = most
	}
	n = max(0, min(n, most))
	f := data(id, of(n, string(rune('A'+d.r.Intn(26)))))
	if n > 0 && d.one(3) {
		pad := d.r.Intn(n)
		f = padded(id, pad, of(n-1-pad, "P"))
	}
	if d.one(8) {
		f.Flags |= api.End
	}
	return f
}

func (d *drawer) pref() api.Pref {
	switch d.r.Intn(6) {
	case 0:
		return pf(api.PrefTable, pick(d, 0, 50, 64, 128, 200, 512, 4096))
	case 1:
		return pf(api.PrefMany, pick(d, 0, 1, 2, 3, 6, 7, 100))
	case 2:
		return pf(api.PrefFrame, pick(d, 64, 65, 100, 300, 512, 513, 1<<24-1))
	case 3:
		return pick(d, pf(api.PrefPush, 0), pf(api.PrefList, 5), pf(99, 1<<32-1))
	}
	if d.one(60) {
		return pf(api.PrefWindow, api.MaxWindow-d.r.Intn(100))
	}
	return pf(api.PrefWindow, pick(d, 0, 1, 10, 64, 100, 300, d.r.Intn(500)))
}

func (d *drawer) update(id int) api.Frame {
	n := pick(d, 1, 2, 10, 64, 100, d.r.Intn(300)+1)
	switch {
	case id == 0 && d.one(d.wild):
		n = pick(d, 0, api.MaxWindow, api.MaxWindow-d.s.left, api.MaxWindow-d.s.left+1)
	case id != 0 && d.one(30):
		n = pick(d, 0, api.MaxWindow-d.r.Intn(300))
	}
	return update(id, n|d.r.Intn(2)<<31)
}

// frames tells what a server sends next.
func (d *drawer) frames() []api.Frame {
	if d.one(d.wild) {
		return d.wrong()
	}
	if d.one(3) {
		return d.ofAll()
	}
	switch k := d.r.Intn(60); {
	case k < 17:
		id := d.id(asked)
		if d.one(3) {
			id = d.id(told)
		}
		if id != 0 {
			l, end := d.head(d.s.known[id])
			return d.cut(id, d.packer.Pack(l...), end)
		}
	case k < 45:
		if id := d.id(told); id != 0 {
			return []api.Frame{d.data(id)}
		}
	case k < 48:
		if id := d.id(pick(d, anyOne, done)); id != 0 {
			return []api.Frame{reset(id, pick(d, 0, 0, 1, 7, 8, 5, 1<<32-1))}
		}
	default:
		if id := d.id(sends); id != 0 {
			return []api.Frame{d.update(id)}
		}
	}
	return nil
}

// ofAll tells what a server sends of no stream, or where it does not matter of which.
func (d *drawer) ofAll() []api.Frame {
	switch k := d.r.Intn(40); {
	case k < 10:
		var l []api.Pref
		for range d.r.Intn(4) {
			l = append(l, d.pref())
		}
		f := settings(l...)
		f.Flags = pick(d, 0, 0, 254)
		return []api.Frame{f}
	case k < 12:
		return []api.Frame{settings2(api.Ack, "")}
	case k < 15:
		return []api.Frame{asks(pick(d, "abcdefgh", of(8, "\x00")))}
	case k < 20:
		return []api.Frame{echo(four(0) + four(d.s.pings-d.r.Intn(2)))}
	case k == 20 && d.one(3):
		return []api.Frame{away(pick(d, d.given(anyOne), d.given(anyOne), 0, api.MaxIds, 1<<31+3), 0, d.text(9))}
	case k < 24:
		return []api.Frame{{Kind: api.Priority, Id: 1 + d.r.Intn(20), Body: "12345"}}
	case k < 26:
		return []api.Frame{{Kind: 10 + d.r.Intn(246), Flags: d.r.Intn(256), Id: d.r.Intn(20), Body: d.text(64)}}
	}
	return []api.Frame{d.update(0)}
}

// wrong tells what no server may send, or almost.
func (d *drawer) wrong() []api.Frame {
	id := max(1, d.given(anyOne))
	switch d.r.Intn(12) {
	case 0:
		return []api.Frame{{Kind: api.Continue, Flags: d.r.Intn(256), Id: id, Body: d.text(9)}}
	case 1:
		return []api.Frame{{Kind: api.Headers, Flags: api.Whole, Id: id, Body: pick(d, "\xff", "\x80", "\x00", "\x3f\xff\xff")}}
	case 2:
		return []api.Frame{{Kind: api.Headers, Id: id, Body: "\x87"}, pick(d, data(id, "x"), settings(), update(id, 1), reset(id, 1))}
	case 3:
		var l []api.Frame
		for k := range 12 {
			l = append(l, api.Frame{Kind: pick(d, api.Continue, api.Continue, api.Continue, api.Continue), Id: id, Body: of(64, "\x87")})
			l[0].Kind = api.Headers
			if k == 11 {
				l[k].Flags = api.Whole
			}
		}
		return l
	case 4:
		return []api.Frame{settings(pick(d, pf(api.PrefPush, 1), pf(api.PrefWindow, 1<<31), pf(api.PrefFrame, 1)))}
	case 5:
		return []api.Frame{update(id, api.MaxWindow-150), settings(pf(api.PrefWindow, 1000))}
	case 6:
		return []api.Frame{data(id, of(65, "x"))}
	case 7:
		return []api.Frame{update(0, pick(d, 0, api.MaxWindow))}
	case 8:
		return []api.Frame{dataEnd(id, ""), pick(d, data(id, "x"), heads(id, true, st("200"))[0])}
	}
	return []api.Frame{{Kind: d.r.Intn(11), Flags: d.r.Intn(256), Id: pick(d, 0, id, d.r.Intn(20)), Body: d.text(70)}}
}

// agrees holds all that a connection tells of itself against the story.
func agrees(t *testing.T, what string, c *Conn, s *story) {
	t.Helper()
	sent, taken := c.Count()
	if c.Dead() != s.dead || c.Gone() != s.gone() || c.Busy() != len(s.open()) || c.Can() != s.can() || sent != len(s.out) || taken != s.taken {
		t.Fatalf("%s: Dead %d, Gone %v, Busy %d, Can %v, Count %d, %d, not %d, %v, %d, %v, %d, %d", what,
			c.Dead(), c.Gone(), c.Busy(), c.Can(), sent, taken, s.dead, s.gone(), len(s.open()), s.can(), len(s.out), s.taken)
	}
	for id := s.config.First - 3; id <= s.next+1; id++ {
		i, e := c.Info(id)
		want, wantE := s.info(id)
		if e != wantE || !sameInfo(i, want) {
			t.Fatalf("%s: Info(%d) told %+v, %d, not %+v, %d", what, id, i, e, want, wantE)
		}
	}
}

// row is a connection, its story, and what comes to both of them.
type row struct {
	t    *testing.T
	c    *Conn
	s    *story
	d    *drawer
	wire string // what the server sent, and the connection did not get yet
	put  int    // how many frames the server sent
}

func newRow(t *testing.T, r *rand.Rand, happened map[string]int) *row {
	t.Helper()
	config := drawnConfig(r)
	s := newStory(config, happened)
	x := &row{t: t, c: New(config), s: s, d: &drawer{r: r, s: s, packer: pack.NewPacker(), wild: pick(&drawer{r: r}, 40, 300, 100000)}}
	if x.c == nil {
		t.Fatalf("New(%+v) is nil", config)
	}
	if r.Intn(40) != 0 {
		x.wire = bytesOfFrames(settings(x.d.pref()))
	}
	return x
}

// id tells a stream that a caller names.
func (x *row) id() int {
	if x.d.one(12) {
		return pick(x.d, 0, -1, x.s.next, x.s.next-1, math.MaxInt, math.MinInt)
	}
	return x.d.given(pick(x.d, anyOne, reads, reads, closed))
}

// step makes one drawn call on both, and holds what they tell against one another.
func (x *row) step() string {
	x.t.Helper()
	switch k := x.d.r.Intn(100); {
	case k < 41:
		x.server()
		n := len(x.wire)
		if x.d.one(3) {
			n = x.d.r.Intn(n + 1)
		}
		return x.feed(n)
	case k < 53:
		x.take(pick(x.d, 0, -1, 1, 9, x.d.r.Intn(200), math.MaxInt))
		return "Take"
	}
	return x.ask()
}

// ask makes one drawn call of a caller's.
func (x *row) ask() string {
	x.t.Helper()
	r := x.d.r
	switch k := r.Intn(48); {
	case k < 14:
		return x.open(x.d.request())
	case k < 32:
		id, n := x.id(), pick(x.d, 0, -1, 1, 5, r.Intn(40), 64, math.MaxInt)
		b, e := x.c.Read(id, n)
		want, wantE := x.s.read(id, n)
		x.same(fmt.Sprintf("Read(%d, %d)", id, n), fmt.Sprint(b, e), fmt.Sprint(want, wantE))
		return "Read"
	case k < 35:
		id, err := x.id(), pick(x.d, api.OK, api.ErrLate, api.ErrCancel, -5)
		x.same(fmt.Sprintf("Cancel(%d, %d)", id, err), x.c.Cancel(id, err), x.s.cancel(id, err))
		return "Cancel"
	case k < 42:
		id := x.id()
		x.same(fmt.Sprintf("Forget(%d)", id), x.c.Forget(id), x.s.forget(id))
		return "Forget"
	case k == 47 && x.d.one(6):
		x.c.Close()
		x.s.close()
		return "Close"
	}
	x.same("Tick", x.c.Tick(), x.s.tick())
	return "Tick"
}

// open opens a request; what was handed in must stay, and is spoiled behind the call.
func (x *row) open(q api.Request) string {
	x.t.Helper()
	handed := q
	handed.Fields, handed.Trailers = slices.Clone(q.Fields), slices.Clone(q.Trailers)
	id, e := x.c.Open(handed)
	if !slices.Equal(handed.Fields, q.Fields) || !slices.Equal(handed.Trailers, q.Trailers) {
		x.t.Fatalf("Open wrote into %+v", q)
	}
	clear(handed.Fields)
	clear(handed.Trailers)
	want, wantE := x.s.openRequest(q)
	x.same("Open", fmt.Sprint(id, e), fmt.Sprint(want, wantE))
	return "Open"
}

// server lets the server send up to three times, most often what is right.
func (x *row) server() {
	for range x.d.r.Intn(4) {
		for _, f := range x.d.frames() {
			x.wire += bytesOfFrames(f)
			x.put++
		}
	}
}

// feed hands both the first n bytes of what the server sent.
func (x *row) feed(n int) string {
	x.t.Helper()
	b := x.wire[:n]
	x.wire = x.wire[n:]
	x.same("Feed", x.c.Feed(b), x.s.feed(b))
	return fmt.Sprintf("Feed(%q)", b)
}

func (x *row) take(n int) {
	x.t.Helper()
	x.same(fmt.Sprintf("Take(%d)", n), x.c.Take(n), x.s.take(n))
}

func (x *row) same(what string, got, want any) {
	x.t.Helper()
	if got != want {
		x.t.Fatalf("%s told %#v, not %#v", what, got, want)
	}
}

// enough holds that all that was to be seen was, and often.
func enough(t *testing.T, happened map[string]int, least int, l ...string) {
	t.Helper()
	for _, what := range l {
		if happened[what] < least {
			t.Errorf("%q: %d times: too few to say anything", what, happened[what])
		}
	}
}

// all is what a story may note.
func all() []string {
	return []string{
		"Open", "Open: ErrGone", "Open: ErrBusy", "Open: of a wrong request", "a block in several frames",
		"Data is sent", "Trailers are sent", "the connection's window holds a body", "a stream's window holds a body", "a window below nothing holds a body",
		"the connection is credited", "a stream is credited", "a stream is credited behind its end",
		"Cancel", "Cancel: ErrNone", "Cancel: ErrClosed", "Read", "Read: ErrNone", "Read of nothing", "Read where nothing waits",
		"Forget", "Forget: false", "Forget of what waits", "a Ping is sent", "a Ping is answered", "nobody is there", "Close",
		"broken: a frame that is too long", "a frame in pieces", "broken: rule.Check", "broken: the first frame",
		"broken: a frame in a block, or a Continue of none", "Away", "a stream that the server did not get", "a frame of which nothing comes",
		"broken: a stream that was not given", "Continue", "broken: a block that is too long", "broken: headers that cannot be unpacked",
		"headers of one that is over", "broken: headers behind the end", "failed: headers", "headers",
		"broken: the connection's window", "all that the connection's window lets", "Data of one that is over", "broken: Data behind the end",
		"failed: a stream's window", "all that a stream's window lets", "failed: Data", "Data", "padding",
		"Reset of one that is over", "Reset", "Reset behind Done", "an Ack", "broken: Settings", "broken: Settings of a window", "a window below nothing", "Settings",
		"Ping", "broken: Update of 0", "broken: Update of too much", "Update", "Update of one that is over", "failed: Update of 0", "failed: Update of too much", "Update of a stream",
	}
}

func TestRowsByTheChaptersWordsP1903(t *testing.T) {
	r := rand.New(rand.NewSource(19))
	happened := map[string]int{}
	for range 8000 {
		x := newRow(t, r, happened)
		dead := 0
		for range 150 {
			what := x.step()
			agrees(t, what, x.c, x.s)
			if x.s.dead != api.OK {
				if dead++; dead > 10 {
					break
				}
			}
		}
		x.take(math.MaxInt)
	}
	enough(t, happened, 50, all()...)
	if len(happened) != len(all()) {
		t.Errorf("%d sorts happened, not %d", len(happened), len(all()))
	}
}

// What is done to one connection does not change another.
func TestTwoSideBySideP1904(t *testing.T) {
	r := rand.New(rand.NewSource(1904))
	happened := map[string]int{}
	for range 300 {
		a, b := newRow(t, r, happened), newRow(t, r, happened)
		for range 200 {
			x := a
			if r.Intn(2) == 0 {
				x = b
			}
			what := x.step()
			agrees(t, what, a.c, a.s)
			agrees(t, what, b.c, b.s)
		}
		a.take(math.MaxInt)
		b.take(math.MaxInt)
	}
}

// The same bytes in other pieces come to the same.
func TestRowsInOtherPiecesP1903(t *testing.T) {
	r := rand.New(rand.NewSource(1903))
	for range 500 {
		happened := map[string]int{}
		x := newRow(t, r, happened)
		y := &row{t: t, c: New(x.s.config), s: newStory(x.s.config, happened)}
		for range 4 {
			q := x.d.request()
			x.c.Open(q)
			x.s.openRequest(q)
			y.c.Open(q)
			y.s.openRequest(q)
			for range 5 {
				x.server()
			}
			y.wire = x.wire
			x.feed(len(x.wire))
			for len(y.wire) > 0 {
				y.feed(min(len(y.wire), 1+r.Intn(1+r.Intn(30))))
			}
			agrees(t, "in pieces", y.c, x.s)
		}
		y.same("Take", y.c.Take(math.MaxInt), x.c.Take(math.MaxInt))
	}
}
