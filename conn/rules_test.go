package conn

import (
	"fmt"
	"math"
	"math/rand"
	"strings"
	"testing"

	"bywash/api"
	"bywash/block"
	"bywash/field"
	"bywash/frame"
	"bywash/pack"
	"bywash/prefs"
	"bywash/rule"
	"bywash/stream"
)

// watch is who looks whether a client keeps the rules, by what it sends alone: what audit takes, and what not.
type watch struct {
	held    string
	opened  bool // the Preface came
	begun   bool // and the first Settings
	acked   prefs.Prefs
	waiting []prefs.Prefs // Settings that wait for an Ack, each as it is behind those ahead
	now     prefs.Prefs   // behind all of them
	blocks  *block.Blocks
	un      *pack.Unpacker
	last    int
	left    int
	streams map[int]*watched
}

type watched struct{ state, left int }

func newWatch() *watch {
	return &watch{
		acked: prefs.First(), now: prefs.First(), blocks: block.New(math.MaxInt), un: pack.NewUnpacker(api.MaxTable),
		left: api.FirstWindow, streams: map[int]*watched{},
	}
}

// lets tells the greatest of what may be in force.
func (w *watch) lets(of func(p prefs.Prefs) int) int {
	n := of(w.acked)
	for _, p := range w.waiting {
		n = max(n, of(p))
	}
	return n
}

// open tells how many streams are.
func (w *watch) open() int {
	n := 0
	for _, x := range w.streams {
		if x.state != stream.Closed {
			n++
		}
	}
	return n
}

// server is a frame that the client has got.
func (w *watch) server(f api.Frame) {
	x := w.streams[f.Id]
	end := f.Flags&api.End != 0
	switch f.Kind {
	case api.Settings:
		if f.Flags&api.Ack == 0 {
			w.settings(f)
		}
	case api.Update:
		n := 0
		if len(f.Body) == 4 {
			n = numberOf(f.Body) & api.MaxWindow
		}
		if f.Id == 0 && w.left+n <= api.MaxWindow {
			w.left += n
		}
		if x != nil && x.left+n <= api.MaxWindow {
			x.left += n
		}
	case api.Reset:
		if x != nil {
			x.state = stream.Closed
		}
	case api.Headers, api.Data:
		if x != nil {
			x.state, _ = stream.Got(x.state, f.Kind, end)
		}
	}
}

func (w *watch) settings(f api.Frame) {
	l, ok := prefs.Get(f.Body)
	p, _, e := prefs.Apply(w.now, l...)
	if !ok || e != api.OK {
		return
	}
	by := p.Window - w.now.Window
	for _, x := range w.streams {
		if x.left+by <= api.MaxWindow {
			x.left += by
		}
	}
	w.now = p
	w.waiting = append(w.waiting, p)
}

// client tells the first rule that is broken by bytes of the client's.
func (w *watch) client(b string) string {
	w.held += b
	if !w.opened {
		if !strings.HasPrefix(w.held, Preface) {
			return "the Preface"
		}
		w.held, w.opened = w.held[len(Preface):], true
	}
	for len(w.held) >= 3 {
		if n := int(w.held[0])<<16 | int(w.held[1])<<8 | int(w.held[2]); n > w.lets(func(p prefs.Prefs) int { return p.Frame }) {
			return "a frame that is too long"
		}
		f, took, e := frame.Get(w.held)
		if e != api.OK {
			return "a frame that is not whole"
		}
		w.held = w.held[took:]
		if wrong := w.said(f); wrong != "" {
			return fmt.Sprintf("%s: %v", wrong, f)
		}
	}
	if w.held != "" || w.blocks.Open() != 0 {
		return "a frame, or a block, that is not whole"
	}
	return ""
}

// said tells the rule that a frame of the client's breaks.
func (w *watch) said(f api.Frame) string {
	if !w.begun && (f.Kind != api.Settings || f.Flags&api.Ack != 0) {
		return "the first frame"
	}
	w.begun = true
	if _, e := rule.Check(f); e != api.OK {
		return "rule.Check"
	}
	b, whole, e := w.blocks.Take(f)
	if e != api.OK {
		return "a block"
	}
	x := w.streams[f.Id]
	switch f.Kind {
	case api.Headers:
		if wrong := w.saidHeaders(f, x); wrong != "" {
			return wrong
		}
	case api.Settings:
		if f.Flags&api.Ack != 0 {
			if len(w.waiting) == 0 {
				return "an Ack of nothing"
			}
			w.acked, w.waiting = w.waiting[0], w.waiting[1:]
		}
	case api.Reset, api.Update:
		if f.Id == 0 {
			break
		}
		if x == nil {
			return "a stream that was not given"
		}
		if f.Kind == api.Reset {
			x.state = stream.Closed
		}
	case api.Data:
		return w.saidData(f, x)
	}
	if whole {
		return w.saidBlock(b)
	}
	return ""
}

func (w *watch) saidHeaders(f api.Frame, x *watched) string {
	switch {
	case x != nil && !stream.Writes(x.state):
		return "headers of one that may not write"
	case x != nil && f.Flags&api.End == 0:
		return "trailers without End"
	case x != nil:
		return ""
	case f.Id%2 == 0 || f.Id <= w.last:
		return "the number of a stream"
	case w.open() >= w.lets(func(p prefs.Prefs) int { return p.Many }):
		return "too many streams"
	}
	w.last = f.Id
	return ""
}

func (w *watch) saidBlock(b block.Block) string {
	l, e := w.un.Unpack(b.Bytes)
	if e != api.OK {
		return "headers that cannot be unpacked"
	}
	x := w.streams[b.Id]
	if x == nil {
		if field.Request(l...) != api.OK {
			return "a request that may not be"
		}
		x = &watched{state: stream.Idle, left: w.now.Window}
		w.streams[b.Id] = x
	} else if field.Trailers(l...) != api.OK {
		return "trailers that may not be"
	}
	x.state, _ = stream.Sent(x.state, api.Headers, b.End)
	return ""
}

func (w *watch) saidData(f api.Frame, x *watched) string {
	n := len(f.Body)
	switch {
	case n > w.left:
		return "the connection's window"
	case x == nil || !stream.Writes(x.state):
		return "Data of one that may not write"
	case n > x.left:
		return "a stream's window"
	}
	w.left, x.left = w.left-n, x.left-n
	x.state, _ = stream.Sent(x.state, api.Data, f.Flags&api.End != 0)
	return ""
}

// The watch itself sees what is against the rules.
func TestWatchP1905(t *testing.T) {
	begin := Preface + bytesOfFrames(settings())
	first := heads(1, false, fl(":method", "GET"), fl(":scheme", "http"), fl(":authority", "a"), fl(":path", "/"))
	all := func(l ...api.Frame) string { return begin + bytesOfFrames(l...) }
	head := first[0]
	ended := head
	ended.Flags |= api.End
	for what, b := range map[string]string{
		"the Preface":      "PRI",
		"the first frame":  Preface + bytesOfFrames(asks("12345678")),
		"rule.Check":       all(asks("1")),
		"a frame that":     all(data(1, of(65, "x"))),
		"a block":          all(api.Frame{Kind: api.Continue, Id: 1}),
		"an Ack of":        all(settings2(1, "")),
		"a stream that":    all(reset(1, 1)),
		"Data of one":      all(data(1, "")),
		"headers of one":   all(ended, heads(1, true)[0]),
		"trailers without": all(head, heads(1, false)[0]),
		"trailers that":    all(head, heads(1, true, fl(":path", "/"))[0]),
		"a request that":   all(heads(1, true, fl("t", "u"))[0]),
		"the number":       all(heads(2, true)[0]),
		"headers that":     all(api.Frame{Kind: 1, Flags: 4, Id: 1, Body: "\xff"}),
		"the connection's": all(head, data(1, of(64, "x")), data(1, of(37, "x"))),
		"":                 all(head, data(1, of(64, "x")), data(1, of(36, "x")), reset(1, 8), update(1, 3)),
	} {
		if got := newWatch().client(b); !strings.HasPrefix(got, what) || (what == "") != (got == "") {
			t.Errorf("%q: told %q", what, got)
		}
	}
	w := newWatch()
	w.server(settings(pf(api.PrefWindow, 2), pf(api.PrefMany, 1)))
	same := func(b, want string) {
		t.Helper()
		if got := w.client(b); !strings.HasPrefix(got, want) || (want == "") != (got == "") {
			t.Errorf("told %q, not %q", got, want)
		}
	}
	same(all(settings2(1, ""), head, data(1, "xy")), "")
	second := head
	second.Id = 3
	same(bytesOfFrames(second), "too many")
	same(bytesOfFrames(data(1, "z")), "a stream's window")
}

// hears hands a watch what the connection said.
func hears(t *testing.T, what string, w *watch, c *Conn) {
	t.Helper()
	if wrong := w.client(c.Take(math.MaxInt)); wrong != "" {
		t.Fatalf("%s: against the rules: %s", what, wrong)
	}
}

// oneByOne hands a connection and a watch all that the server sent, frame by frame.
func (x *row) oneByOne(w *watch) {
	x.t.Helper()
	for x.wire != "" {
		n := 9 + (int(x.wire[0])<<16 | int(x.wire[1])<<8 | int(x.wire[2]))
		f, _, e := frame.Get(x.wire)
		if e != api.OK || n > len(x.wire) {
			x.t.Fatalf("no frame: %q", x.wire)
		}
		w.server(f)
		what := x.feed(n)
		hears(x.t, what, w, x.c)
	}
	x.s.take(math.MaxInt)
}

// Whatever callers ask and the server says, what goes out keeps the rules.
func TestRowsKeepTheRulesP1905(t *testing.T) {
	r := rand.New(rand.NewSource(1905))
	happened := map[string]int{}
	for range 2500 {
		x, w := newRow(t, r, happened), newWatch()
		for range 150 {
			if r.Intn(2) == 0 {
				x.server()
				x.oneByOne(w)
				continue
			}
			what := x.ask()
			hears(t, what, w, x.c)
			x.s.take(math.MaxInt)
		}
	}
	enough(t, happened, 50, "Open", "Data is sent", "Trailers are sent", "a window below nothing", "a block in several frames", "failed: Data",
		"failed: headers", "a stream's window holds a body", "the connection's window holds a body", "Cancel", "Settings", "Open: ErrBusy", "Away")
}

// A server that does nothing but what is against the rules, or almost.
func TestRowsOfWildServersP1905(t *testing.T) {
	r := rand.New(rand.NewSource(9051))
	for range 5000 {
		c, w := New(plainConfig), newWatch()
		d := &drawer{r: r, s: newStory(plainConfig, map[string]int{}), packer: pack.NewPacker(), wild: 2}
		says := func(f api.Frame) {
			w.server(f)
			c.Feed(bytesOfFrames(f))
			hears(t, fmt.Sprint("Feed of ", f), w, c)
		}
		says(settings())
		for k := range 1 + r.Intn(5) {
			c.Open(post(of(r.Intn(200), "x"), d.fields(1)...))
			hears(t, "Open", w, c)
			d.s.next += 2 // so that streams are drawn
			if k > 2 {
				c.Cancel(1, api.OK)
				hears(t, "Cancel", w, c)
			}
			for range 4 {
				for _, f := range d.wrong() {
					says(f)
				}
				says(api.Frame{Kind: r.Intn(11), Flags: r.Intn(256), Id: r.Intn(12), Body: d.text(20)})
			}
		}
	}
}
