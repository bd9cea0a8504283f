package audit

import (
	"fmt"
	"math"
	"math/rand"
	"slices"
	"strings"
	"testing"

	"bywash/api"
	"bywash/conn"
	"bywash/frame"
	"bywash/message"
	"bywash/pack"
)

// talk is a connection, its callers and its server, and an auditor of what it sends.
type talk struct {
	t        *testing.T
	r        *rand.Rand
	c        *conn.Conn
	twin     *conn.Conn // asked the same, but fed all that comes between two calls in one piece
	a        *Auditor
	packer   *pack.Packer // the server's
	wild     int          // one of so many frames of the server's is wrong
	wire     string       // what the server said, and the connection did not get yet
	fed      string       // what it got, and the twin did not
	said     string       // what it sent, and the twin is not held against yet
	sent     string       // of that, frames that are not looked at yet
	greeted  bool
	ping     string // what was asked of the server, and is not answered yet
	window   int    // what the server may send on all streams
	ids      []int
	requests map[int]api.Request
	answered map[int]int // of a stream: 1: headers; 2: all
	calls    []string
	happened map[string]int
}

func newTalk(t *testing.T, r *rand.Rand, wild int, happened map[string]int) *talk {
	c := conn.Config{Window: 1 + r.Intn(150), First: 1 + 2*r.Intn(5), Every: 1 + r.Intn(6), Wait: 1 + r.Intn(9)}
	if r.Intn(10) == 0 {
		c.First = api.MaxIds - 2*r.Intn(6)
	}
	return &talk{
		t: t, r: r, c: conn.New(c), twin: conn.New(c), a: New(), packer: pack.NewPacker(), wild: wild, window: api.FirstWindow,
		requests: map[int]api.Request{}, answered: map[int]int{}, happened: happened,
	}
}

func (x *talk) one(n int) bool { return x.r.Intn(n) == 0 }

func (x *talk) fails(what string) {
	x.t.Helper()
	x.t.Fatalf("%s\n%s", what, strings.Join(x.calls, "\n"))
}

// call notes a call that was made of both connections, and what they answered.
func (x *talk) call(what string, got, twin any) {
	x.t.Helper()
	x.calls = append(x.calls, what)
	if fmt.Sprint(got) != fmt.Sprint(twin) {
		x.fails(fmt.Sprintf("%s: %v, and fed in one piece %v", what, got, twin))
	}
}

// take hands the auditor up to n bytes of what was sent.
func (x *talk) take(n int) {
	x.t.Helper()
	b := x.c.Take(n)
	x.said += b
	x.sent += b
	x.calls = append(x.calls, fmt.Sprintf("Take(%d): %q", n, b))
	if e := x.a.Client(b); e != api.OK {
		x.fails(fmt.Sprintf("against the rules: %d", e))
	}
	if !x.greeted && len(x.sent) >= len(conn.Preface) {
		x.greeted, x.sent = true, x.sent[len(conn.Preface):]
	}
	for x.greeted {
		f, took, e := frame.Get(x.sent)
		if e != api.OK {
			break
		}
		x.sent = x.sent[took:]
		x.happened[frame.Name(f.Kind)]++
		if f.Kind == api.Update && f.Id == 0 {
			x.window += numberOf(f.Body)
		}
		if f.Kind == api.Ping && f.Flags&api.Ack == 0 {
			x.ping = f.Body
		}
	}
	if x.a.Held() != len(x.sent) {
		x.fails(fmt.Sprintf("Held: %d, not %d", x.a.Held(), len(x.sent)))
	}
}

// drain hands it all, in drawn pieces.
func (x *talk) drain() {
	x.t.Helper()
	for x.one(3) {
		x.take(x.r.Intn(30))
	}
	x.take(math.MaxInt)
	if x.a.Held() != 0 {
		x.fails("a frame that is not whole was sent")
	}
}

// feed hands the connection a piece of what the server said, of no more than one frame's end.
func (x *talk) feed() {
	x.t.Helper()
	n := len(x.wire)
	if x.one(3) {
		n = min(n, 1+x.r.Intn(30))
	}
	got := x.fed + x.wire // of which frames begin at the beginning of what the twin was not fed
	at := 0
	for at < len(got) {
		f, took, e := frame.Get(got[at:])
		if e != api.OK {
			break
		}
		if at += took; at <= len(x.fed) {
			continue
		}
		if len(x.fed)+n < at {
			break
		}
		_, next, e := frame.Get(got[at:])
		if e == api.OK && len(x.fed)+n >= at+next {
			n = at - len(x.fed) + x.r.Intn(next) // up to somewhere in the next one
		}
		x.drain()
		x.a.Server(f)
		break
	}
	b := x.wire[:n]
	x.wire = x.wire[n:]
	x.fed += b
	e := x.c.Feed(b)
	x.calls = append(x.calls, fmt.Sprintf("Feed(%q): %d", b, e))
	if x.one(2) {
		x.drain()
	}
}

// settle hands both connections all that the server said, and holds them against one another.
func (x *talk) settle() {
	x.t.Helper()
	for x.wire != "" {
		x.feed()
	}
	x.twin.Feed(x.fed)
	x.fed = ""
	x.drain()
	if b := x.twin.Take(math.MaxInt); b != x.said {
		x.fails(fmt.Sprintf("in one piece it sent %q, not %q", b, x.said))
	}
	x.said = ""
}

// ask draws what a caller does.
func (x *talk) ask() {
	x.t.Helper()
	id := 1 + 2*x.r.Intn(6)
	if len(x.ids) > 0 && !x.one(20) {
		id = x.ids[max(x.r.Intn(len(x.ids)), x.r.Intn(len(x.ids)))]
	}
	n := x.r.Intn(60)
	switch x.r.Intn(12) {
	case 0, 1, 2:
		x.open()
	case 3, 4, 5:
		b, e := x.c.Read(id, n)
		c, f := x.twin.Read(id, n)
		x.call(fmt.Sprintf("Read(%d, %d)", id, n), fmt.Sprint(b, e), fmt.Sprint(c, f))
	case 6:
		if x.one(2) {
			e := api.Errno(x.r.Intn(24))
			x.call(fmt.Sprintf("Cancel(%d, %d)", id, e), x.c.Cancel(id, e), x.twin.Cancel(id, e))
		}
	case 7:
		x.call(fmt.Sprintf("Forget(%d)", id), x.c.Forget(id), x.twin.Forget(id))
	case 8:
		x.call("Tick", x.c.Tick(), x.twin.Tick())
	case 9:
		if x.one(100) {
			x.c.Close()
			x.twin.Close()
			x.call("Close", x.c.Dead(), x.twin.Dead())
		}
	default:
		x.take(n)
	}
}

func (x *talk) open() {
	x.t.Helper()
	d := &drawer{r: x.r, s: newStory(), wild: 200}
	r := api.Request{
		Method: pick(d, "GET", "POST", "HEAD", "x"), Scheme: "http", Authority: pick(d, "a", "b"), Path: "/" + d.text(pick(d, 0, 9, 90)),
		Fields: d.fields(3), Body: d.text(pick(d, 0, 0, 5, 100, 400)),
	}
	if d.one(3) {
		r.Trailers = d.fields(2)
	}
	id, e := x.c.Open(r)
	twin, f := x.twin.Open(r)
	x.call(fmt.Sprintf("Open(%+v): %d", r, id), fmt.Sprint(id, e), fmt.Sprint(twin, f))
	x.happened[fmt.Sprint("Open: ", e)]++
	if e == api.OK {
		x.ids = append(x.ids, id)
		x.requests[id] = r
	}
}

// serve draws what the server says.
func (x *talk) serve() {
	d := &drawer{r: x.r, s: newStory(), wild: 200, packer: x.packer}
	id := 0
	var open []int
	for _, k := range x.ids {
		if i, e := x.c.Info(k); e == api.OK && !i.Over && x.answered[k] < 2 {
			open = append(open, k)
		}
	}
	if len(open) > 0 {
		id = pick(d, open...)
	}
	var l []api.Frame
	switch k := x.r.Intn(12); {
	case x.ping != "" && (x.wild > 15 || x.one(4)):
		l = append(l, api.Frame{Kind: api.Ping, Flags: api.Ack, Body: x.ping})
		x.ping = ""
	case x.one(x.wild):
		l = append(l, pick(d, d.hears(), d.anything(), update(id, 0), update(id, math.MaxInt32), reset(id), last(data(id, "")), update(0, 0), data(id, of(64, "x"))))
	case k == 0:
		if f := d.setting(); x.lives(f) {
			l = append(l, f)
		}
	case k < 4:
		l = append(l, update(0, 1+x.r.Intn(120)))
	case k == 4:
		l = append(l, pick(d, asking(), asking(), asking(), settings(), priority(1+x.r.Intn(9)), api.Frame{Kind: api.Settings, Flags: api.Ack}, api.Frame{Kind: 77}))
	case k == 5 && x.one(25):
		l = append(l, away(pick(d, id, 0, math.MaxInt32)))
	case id == 0:
	case k < 8:
		l = append(l, update(id, 1+x.r.Intn(120)))
	case x.answered[id] == 0:
		end := x.one(4)
		x.answered[id] = 1
		if end {
			x.answered[id] = 2
		}
		l = d.block(id, end, x.packer.Pack(append([]api.Field{fl(":status", pick(d, "200", "404"))}, d.fields(2)...)...))
	case k == 8 && x.one(4):
		l = append(l, api.Frame{Kind: api.Reset, Id: id, Body: number4(pick(d, 0, 7, 8, 2))})
	case k == 9 && x.one(3):
		x.answered[id] = 2
		l = d.block(id, true, x.packer.Pack(d.fields(2)...))
	default:
		f := data(id, d.text(max(0, min(x.window, 20))))
		if x.one(4) && len(f.Body) > 3 {
			f = padded(data(id, f.Body[3:]), 2)
		}
		if x.one(8) {
			f, x.answered[id] = last(f), 2
		}
		l = append(l, f)
	}
	for _, f := range l {
		if f.Kind == api.Data {
			x.window -= len(f.Body)
		}
	}
	x.wire += bytesOf(l...)
}

// lives tells whether Settings do no harm.
func (x *talk) lives(f api.Frame) bool {
	s := newStory()
	s.server(f)
	return len(s.settings(s.log)) == 1 && s.window(s.log) < 1<<30
}

// holds holds what the auditor knows of all requests against what was asked.
func (x *talk) holds() {
	x.t.Helper()
	if !slices.Equal(x.a.Opened(), x.ids) {
		x.fails(fmt.Sprintf("Opened: %v, not %v", x.a.Opened(), x.ids))
	}
	for _, id := range x.ids {
		r := x.requests[id]
		want, _ := message.Fields(r)
		l, b, m, is := x.a.Asked(id)
		if !is || !slices.Equal(l, want) || !strings.HasPrefix(r.Body, b) || len(m) > 0 && (b != r.Body || !slices.Equal(m, r.Trailers)) {
			x.fails(fmt.Sprintf("Asked(%d): %q %q %q %t", id, l, b, m, is))
		}
		if b == r.Body && b != "" {
			x.happened["a body, all of it"]++
		}
		if len(m) > 0 {
			x.happened["trailers"]++
		}
	}
	x.happened[fmt.Sprint("Dead: ", x.c.Dead())]++
}

// Whatever is asked of a connection, and whatever a server does, all that it sends is what an auditor takes.
func TestConnKeepsTheRulesP1905(t *testing.T) {
	r := rand.New(rand.NewSource(1905))
	happened := map[string]int{}
	for row := range 1500 {
		x := newTalk(t, r, []int{15, 150, 5000}[row%3], happened)
		x.wire = bytesOf(settings())
		if x.one(30) {
			x.wire = ""
		}
		for range 120 {
			for range x.r.Intn(4) {
				x.serve()
			}
			for x.wire != "" && !x.one(4) {
				x.feed()
			}
			if x.one(3) {
				continue // so that more is fed in one piece
			}
			x.settle()
			x.ask()
			if x.c.Dead() != api.OK && x.one(6) {
				break
			}
		}
		x.settle()
		x.holds()
	}
	enough(t, happened, 10, "Dead: 0", "Dead: 5", "Dead: 9", "Dead: 10", "Dead: 11", "Dead: 12", "Dead: 18", "Open: 13", "Open: 14")
	enough(t, happened, 500, "Open: 0", "a body, all of it", "trailers", "data", "headers", "continue", "reset", "settings", "ping", "update", "away")
}
