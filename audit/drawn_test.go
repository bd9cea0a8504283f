package audit

import (
	"fmt"
	"io"
	"math/rand"
	"slices"
	"strings"
	"testing"

	"bywash/api"
	"bywash/conn"
	"bywash/pack"
	"bywash/prefs"
)

// say writes values in words; lists that are nil and empty are one.
func say(w io.Writer, l ...any) {
	for _, x := range l {
		fmt.Fprintf(w, "%q ", fmt.Sprintf("%q", x))
	}
	fmt.Fprintln(w)
}

// wordsOf tells all that an auditor tells.
func wordsOf(a *Auditor, opened []int) string {
	w := strings.Builder{}
	say(&w, a.Opened(), a.Open(), a.Held())
	for _, id := range append([]int{0, 2, 999}, opened...) {
		l, b, m, is := a.Asked(id)
		say(&w, l, b, m, is)
	}
	return w.String()
}

// drawer draws what a client and a server say: most often what is right, behind all that was said.
type drawer struct {
	r      *rand.Rand
	s      *story
	packer *pack.Packer
	wild   int    // one of so many is wrong
	wire   string // what the client said, and nobody got yet
}

func (d *drawer) one(n int) bool { return d.r.Intn(n) == 0 }

func (d *drawer) astray() bool { return d.one(d.wild) }

func pick[T any](d *drawer, l ...T) T { return l[d.r.Intn(len(l))] }

func (d *drawer) text(most int) string {
	b := make([]byte, d.r.Intn(most+1))
	for i := range b {
		b[i] = byte('a' + d.r.Intn(26))
	}
	return string(b)
}

func (d *drawer) fields(most int) []api.Field {
	var l []api.Field
	for range d.r.Intn(most + 1) {
		l = append(l, fl(pick(d, "a", "b", "cookie", "x-y"), pick(d, "", "u", "vvv", d.text(8), d.text(60), of(d.r.Intn(90), "\xff"))))
	}
	if d.astray() {
		l = append(l, pick(d, fl("A", "b"), fl("connection", ""), fl("a", " b"), fl(":path", "/"), fl(":x", ""), fl("te", "x")))
	}
	if d.astray() {
		l = append(l, fl("l", of(200, "l")), fl("l", of(200, "m")), fl("l", of(199, "n")))
	}
	return l
}

// of tells a stream of which that holds, as far as anybody knows; 0: of none it does.
func (d *drawer) of(holds func(x life) bool) int {
	var l []int
	for _, id := range d.s.opened() {
		if holds(d.s.life(id)) {
			l = append(l, id)
		}
	}
	if len(l) == 0 {
		return 0
	}
	return pick(d, l...)
}

func (d *drawer) next() int {
	if l := d.s.opened(); len(l) > 0 {
		return l[len(l)-1] + 2
	}
	return 1
}

func (d *drawer) anyId() int {
	return min(api.MaxIds, pick(d, 0, 1, 2, 3, 5, 7, 9, 11, d.next(), d.next()+2, d.next()-1, d.next()+1, d.r.Intn(api.MaxIds), api.MaxIds))
}

// block draws frames of a block: cut anywhere, now and then with padding or a priority.
func (d *drawer) block(id int, end bool, b string) []api.Frame {
	f := heading(id, 0, "")
	if end {
		f.Flags = api.End
	}
	ahead := ""
	if d.one(5) {
		f.Flags |= api.Weighed
		ahead = "12345"
	}
	var l []api.Frame
	most := min(64, d.s.most(func(p prefs.Prefs) int { return p.Frame })) - 20
	for {
		n := min(len(b), most)
		if d.one(3) {
			n = min(n, d.r.Intn(most))
		}
		f.Body, b = ahead+b[:n], b[n:]
		ahead = ""
		if f.Kind == api.Headers && d.one(5) {
			f = padded(f, d.r.Intn(12))
		}
		if b == "" && !d.one(12) {
			f.Flags |= api.Whole
			break
		}
		l = append(l, f)
		f = continued(id, 0, "")
		if d.astray() {
			l = append(l, d.anything())
		}
	}
	l = append(l, f)
	if d.astray() && d.one(4) {
		l = append(l, continued(id, api.Whole, ""))
	}
	return l
}

// headers draws a request.
func (d *drawer) headers() []api.Frame {
	id := d.next() + pick(d, 0, 0, 0, 2, 6)
	if d.astray() {
		id = pick(d, d.anyId(), d.next()+1, d.next()-4, d.next()-6)
	}
	id = max(1, min(id, api.MaxIds))
	l := append(get("/"+d.text(pick(d, 0, 8, 60))), d.fields(3)...)
	if d.astray() {
		l = slices.Delete(l, 0, 1+d.r.Intn(4))
	}
	b := d.packer.Pack(l...)
	if d.astray() {
		b += pick(d, "\x80", "\xff\xff", "\x20", "\x00\x05ab")
	}
	return d.block(id, d.one(3), b)
}

// trailers draws the end of a request.
func (d *drawer) trailers() []api.Frame {
	id := d.of(life.writes)
	if d.astray() && d.one(2) {
		id = d.of(func(life) bool { return true })
	}
	if id == 0 {
		return nil
	}
	b := d.packer.Pack(d.fields(2)...)
	if d.astray() {
		b += pick(d, "\x80", "\xff\xff", "\x00\x05ab")
	}
	return d.block(id, !d.astray(), b)
}

// data draws some of a body: most often as much as may be, or less.
func (d *drawer) data() []api.Frame {
	id := d.of(life.writes)
	if d.astray() {
		id = d.anyId()
	}
	if id == 0 {
		return nil
	}
	left := min(d.s.left(), d.s.life(id).left)
	if d.astray() {
		left = pick(d, d.s.left(), left) + 1 + d.r.Intn(3)
	}
	n := max(0, min(left, d.s.most(func(p prefs.Prefs) int { return p.Frame })))
	if d.one(3) {
		n = d.r.Intn(n + 1)
	}
	f := data(id, d.text(n))
	f.Body += of(n-len(f.Body), "x")
	if m := d.r.Intn(10); n > m && d.one(3) {
		f.Body = f.Body[m+1:]
		f = padded(f, m)
	}
	if d.one(6) {
		f.Flags |= api.End
	}
	return []api.Frame{f}
}

// plain draws a frame that changes little.
func (d *drawer) plain() api.Frame {
	given := d.of(func(life) bool { return true })
	if given == 0 || d.astray() {
		given = d.anyId()
	}
	switch d.r.Intn(8) {
	case 0:
		return reset(given)
	case 1:
		return update(given, d.r.Intn(100))
	case 2:
		return update(0, d.r.Intn(100))
	case 3:
		return priority(1 + d.r.Intn(20))
	case 4:
		return settings(pf(d.r.Intn(8), d.r.Intn(1000)))
	case 5:
		return away(d.r.Intn(20))
	case 6:
		return api.Frame{Kind: 10 + d.r.Intn(246), Flags: d.r.Intn(256), Id: d.r.Intn(20), Body: d.text(64)}
	}
	return api.Frame{Kind: api.Ping, Flags: d.r.Intn(256), Body: of(8, "p")}
}

// anything draws a frame of which nothing holds.
func (d *drawer) anything() api.Frame {
	return api.Frame{Kind: d.r.Intn(11), Flags: d.r.Intn(256), Id: d.anyId(), Body: d.text(pick(d, 4, 5, 8, 20, 66))}
}

// says draws what the client says.
func (d *drawer) says() []api.Frame {
	waits := len(d.s.settings(d.s.log)) - d.s.acks()
	switch k := d.r.Intn(12); {
	case d.wire != "" || d.s.wrong != api.OK:
		return nil // what it would be behind is not known
	case d.astray() && d.one(2):
		return []api.Frame{d.anything()}
	case d.astray():
		return []api.Frame{pick(d, ack(), promise(1), other(65+d.r.Intn(500)), continued(1, api.Whole, ""))}
	case k == 0 && waits > 0:
		return []api.Frame{ack()}
	case k < 4:
		if len(d.s.open()) < d.s.most(func(p prefs.Prefs) int { return p.Many }) || d.one(d.wild/4) {
			return d.headers()
		}
	case k == 4:
		return d.trailers()
	case k < 10:
		return d.data()
	}
	return []api.Frame{d.plain()}
}

// hears draws what the client gets.
func (d *drawer) hears() api.Frame {
	id := d.of(func(x life) bool { return !x.closed() })
	if id == 0 || d.one(10) {
		id = d.anyId()
	}
	f := data(id, d.text(3))
	switch d.r.Intn(14) {
	case 0:
		return d.setting()
	case 1:
		return d.setting()
	case 2:
		f = reset(id)
	case 3:
		f = heading(id, pick(d, 0, api.Whole), "\x87")
		fallthrough
	case 4:
		f.Flags |= d.r.Intn(2) * api.End
		if d.one(4) {
			f = padded(f, d.r.Intn(5))
		}
	case 5, 6, 7, 8:
		f = update(0, pick(d, 0, d.r.Intn(100), d.r.Intn(100), d.r.Intn(100), api.MaxWindow-100))
	case 9, 10, 11:
		f = update(id, pick(d, 0, d.r.Intn(100), d.r.Intn(100), d.r.Intn(100), api.MaxWindow-100-d.r.Intn(3)))
	case 12:
		f = d.plain()
	case 13:
		f = d.anything()
	}
	if d.one(20) {
		f.Body = f.Body[:d.r.Intn(len(f.Body)+1)]
	}
	return f
}

func (d *drawer) setting() api.Frame {
	var l []api.Pref
	for range d.r.Intn(3) {
		l = append(l, pick(d,
			pf(api.PrefTable, pick(d, 0, 64, 128, 512, 1000)),
			pf(api.PrefMany, d.r.Intn(9)),
			pf(api.PrefWindow, pick(d, d.r.Intn(200), 100, 100+d.r.Intn(100), d.r.Intn(20), api.MaxWindow, api.MaxWindow+1)),
			pf(api.PrefFrame, pick(d, 64, 64+d.r.Intn(40), 512, 1000, 63)),
			pf(api.PrefPush, d.r.Intn(8)/7),
			pf(d.r.Intn(20), d.r.Intn(100)),
		))
	}
	f := settings(l...)
	if d.one(15) {
		f.Flags = api.Ack
	}
	return f
}

// step lets one of the sides go on, and tells in words who did what.
func (d *drawer) step(a *Auditor) (string, bool) {
	if d.one(3) {
		f := d.hears()
		a.Server(f)
		d.s.server(f)
		return fmt.Sprintf("Server(%+v)", f), true
	}
	d.wire += bytesOf(d.says()...)
	n := len(d.wire)
	if d.one(3) {
		n = min(n, d.r.Intn(20))
	}
	b := d.wire[:n]
	d.wire = d.wire[n:]
	got, want := a.Client(b), d.s.client(b)
	if d.s.wrong != api.OK {
		d.wire = ""
	}
	return fmt.Sprintf("Client(%q): %d, not %d %s", b, got, want, d.s.why), got == want
}

// enough holds that each of these happened so often.
func enough(t *testing.T, happened map[string]int, least int, what ...string) {
	t.Helper()
	for _, w := range what {
		if happened[w] < least {
			t.Errorf("%s: %d times", w, happened[w])
		}
	}
}

// Rows of calls, behind each of which the auditor tells what the story does.
func TestRowsP2001P2002(t *testing.T) {
	r := rand.New(rand.NewSource(2001))
	happened := map[string]int{}
	for row := range 2500 {
		d := &drawer{r: r, s: newStory(), packer: pack.NewPacker(), wild: pick(&drawer{r: r}, 15, 60, 200), wire: conn.Preface}
		if d.astray() {
			d.wire = conn.Preface[:d.r.Intn(24)] + "x"
		}
		if !d.astray() {
			d.wire += bytesOf(settings(pf(api.PrefWindow, 50)))
		}
		a := New()
		var calls []string
		for rest := 90; rest > 0; rest-- {
			call, right := d.step(a)
			calls = append(calls, call)
			if !right {
				t.Fatalf("row %d: %s\n%s", row, call, strings.Join(calls, "\n"))
			}
			if d.s.wrong != api.OK {
				rest = min(rest, 8) // what it tells behind it
				continue
			}
			if rest > 1 && !d.one(3) {
				continue
			}
			if got, want := wordsOf(a, d.s.opened()), d.s.words(); got != want {
				t.Fatalf("row %d: told\n%s\nnot\n%s\n%s", row, got, want, strings.Join(calls, "\n"))
			}
		}
		happened[d.s.why]++
		d.count(happened)
	}
	enough(t, happened, 10, "the Preface", "a frame that is too long", "the first frame", "rule.Check", "a frame in a block", "a Continue alone",
		"an Ack of nothing", "not given: reset", "not given: update", "not given: data", "headers of one that may not write", "trailers without End",
		"an even number", "too many streams", "a number that falls", "cannot be unpacked: trailers", "cannot be unpacked: a request",
		"may not be: a request", "may not be: trailers", "the connection's window", "Data of one that may not write", "a stream's window", "")
	enough(t, happened, 50, "a window below nothing", "Settings", "an Ack", "ended by both", "trailers", "reset", "a window beyond")
}

// count counts what happened in a row.
func (d *drawer) count(happened map[string]int) {
	for _, id := range d.s.opened() {
		x := d.s.life(id)
		for what, is := range map[string]bool{
			"ended by both":          x.weEnded && x.theyEnded,
			"trailers":               len(d.s.lists[id]) > 1,
			"reset":                  x.reset,
			"a window below nothing": x.left < 0,
			"a window beyond":        x.size != d.s.window(d.s.log),
		} {
			if is {
				happened[what]++
			}
		}
	}
	happened["Settings"] += len(d.s.settings(d.s.log))
	happened["an Ack"] += d.s.acks()
}
