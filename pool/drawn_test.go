package pool

import (
	"math"
	"math/rand"
	"slices"
	"strings"
	"testing"

	"bywash/api"
	"bywash/conn"
)

// twin is a connection of the test's own, to which all is done that is done to the one in the pool.
type twin struct {
	number  int
	twin    *conn.Conn
	its     *conn.Conn // the one in the pool, as At told it first
	streams int        // that were opened
	pings   int        // that were asked
}

// plain is a pool by the chapter's words: a list of twins.
type plain struct {
	config   conn.Config
	most     int
	seldom   int // of so many Pings one stays without an answer
	dials    bool
	next     int
	list     []*twin
	lists    [][2][]int // handed out, and as they were then
	happened map[string]int
}

func (p *plain) note(what string) { p.happened[what]++ }

// either notes the one or the other.
func (p *plain) either(is bool, one, other string) {
	if is {
		p.note(one)
	} else {
		p.note(other)
	}
}

func (p *plain) wants(t *testing.T, x *Pool, waiting int) {
	can, lives := 0, 0
	for _, w := range p.list {
		if w.twin.Can() {
			can++
		}
		if w.twin.Dead() == api.OK && !w.twin.Gone() {
			lives++
		}
	}
	want := false
	switch {
	case waiting <= 0:
		p.note("Wants: none waits")
	case can > 0:
		p.note("Wants: one Can")
	case p.dials:
		p.note("Wants: somebody dials")
	case lives > p.most:
		p.note("Wants: more live")
	case lives == p.most:
		p.note("Wants: most live")
	default:
		want = true
		p.either(len(p.list) >= p.most, "Wants: though most are there", "Wants")
	}
	if is := x.Wants(waiting); is != want {
		t.Fatalf("Wants(%d): %v, not %v", waiting, is, want)
	}
}

func (p *plain) dial(t *testing.T, x *Pool) {
	p.either(p.dials, "Dial: once more", "Dial")
	dial(t, x, !p.dials)
	p.dials = true
}

func (p *plain) dialed(t *testing.T, x *Pool, ok bool, r *rand.Rand) {
	switch {
	case !p.dials:
		p.note("Dialed: none is")
		dialed(t, x, ok, 0, false)
	case !ok:
		p.note("Dialed: false")
		dialed(t, x, false, 0, true)
	default:
		p.either(len(p.list) >= p.most, "Dialed: beyond most", "Dialed: true")
		p.next++
		dialed(t, x, true, p.next, true)
		w := &twin{number: p.next, twin: conn.New(p.config), its: x.At(p.next)}
		if r.Intn(8) > 0 {
			w.both(func(c *conn.Conn) { c.Feed(greets()) })
		}
		p.list = append(p.list, w)
	}
	p.dials = false
}

func (p *plain) pick(t *testing.T, x *Pool) {
	want := 0
	for i := len(p.list) - 1; i >= 0; i-- {
		if p.list[i].twin.Can() {
			want = p.list[i].number
		}
	}
	switch {
	case len(p.list) == 0:
		p.note("Pick: none there")
	case want == 0:
		p.note("Pick: none Can")
	default:
		p.either(want == p.list[0].number, "Pick: the first", "Pick: a later one")
	}
	picks(t, x, want)
}

func (p *plain) at(t *testing.T, x *Pool, k int) {
	var want *conn.Conn
	for _, w := range p.list {
		if w.number == k {
			want = w.its
		}
	}
	switch {
	case want != nil:
		p.note("At")
	case 1 <= k && k <= p.next:
		p.note("At: it went")
	default:
		p.note("At: none yet")
	}
	if c := x.At(k); c != want {
		t.Fatalf("At(%d): %p, not %p", k, c, want)
	}
}

func (p *plain) sweep(t *testing.T, x *Pool, r *rand.Rand) {
	var went []int
	var stay []*twin
	for _, w := range p.list {
		switch {
		case w.twin.Dead() != api.OK:
			p.note("Sweep: Dead")
			went = append(went, w.number)
			continue
		case w.twin.Gone() && w.twin.Busy() == 0:
			p.note("Sweep: Gone")
			went = append(went, w.number)
			continue
		case w.twin.Gone():
			p.note("Sweep: Gone, but Busy")
		}
		stay = append(stay, w)
	}
	p.either(len(went) == 0, "Sweep: none", "Sweep")
	if len(went) > 1 {
		p.note("Sweep: several")
	}
	p.list = stay
	p.told(t, "Sweep", x.Sweep(), went, r)
}

func (p *plain) tick(t *testing.T, x *Pool, r *rand.Rand) {
	var broke []int
	for _, w := range p.list {
		if w.twin.Dead() != api.OK {
			p.note("Tick: of a Dead one")
			continue
		}
		w.twin.Tick()
		if w.twin.Dead() != api.OK {
			broke = append(broke, w.number)
		}
	}
	p.either(len(broke) == 0, "Tick", "Tick: one breaks")
	if len(broke) > 1 {
		p.note("Tick: several break")
	}
	p.told(t, "Tick", x.Tick(), broke, r)
}

func (p *plain) all(t *testing.T, x *Pool, r *rand.Rand) { p.told(t, "All", x.All(), p.numbers(), r) }

func (p *plain) numbers() []int {
	var l []int
	for _, w := range p.list {
		l = append(l, w.number)
	}
	return l
}

// told holds a list that was handed out, and keeps it, or turns it.
func (p *plain) told(t *testing.T, what string, l, want []int, r *rand.Rand) {
	if !slices.Equal(l, want) {
		t.Fatalf("%s: %v, not %v", what, l, want)
	}
	if r.Intn(2) == 0 {
		p.lists = append(p.lists, [2][]int{l, slices.Clone(l)})
		return
	}
	for i := range l {
		l[i] = r.Intn(9)
	}
	l = append(l, r.Intn(9), r.Intn(9))
	slices.Reverse(l)
}

// holds holds that each in the pool is as its twin, and says the same.
func (p *plain) holds(t *testing.T, x *Pool, r *rand.Rand) {
	if n := x.Dialing(); n != 0 != p.dials || n > 1 || n < 0 {
		t.Fatalf("Dialing: %d, though it is %v that somebody dials", n, p.dials)
	}
	for _, w := range p.list {
		c := x.At(w.number)
		if c == nil || c != w.its {
			t.Fatalf("At(%d): %p, not %p", w.number, c, w.its)
		}
		if c.Can() != w.twin.Can() || c.Busy() != w.twin.Busy() || c.Dead() != w.twin.Dead() || c.Gone() != w.twin.Gone() {
			t.Fatalf("%d is not as one that is alone: Busy %d, %d; Dead %d, %d; Gone %v, %v", w.number, c.Busy(), w.twin.Busy(), c.Dead(), w.twin.Dead(), c.Gone(), w.twin.Gone())
		}
		said := w.twin.Take(math.MaxInt)
		if got := c.Take(math.MaxInt); got != said {
			t.Fatalf("%d says %q, not %q", w.number, got, said)
		}
		if strings.HasSuffix(said, asks(w.pings+1)) {
			w.pings++
			if r.Intn(p.seldom) > 0 {
				w.both(func(c *conn.Conn) { c.Feed(echo(w.pings)) })
			}
		}
	}
}

// both does something to one in the pool, and to its twin.
func (w *twin) both(do func(c *conn.Conn)) {
	do(w.its)
	do(w.twin)
}

// opens opens a stream, if that may be.
func (w *twin) opens() {
	if w.twin.Can() {
		w.streams++
	}
	w.both(func(c *conn.Conn) { c.Open(get()) })
}

// id tells a stream that was opened; seldom the next one.
func (w *twin) id(r *rand.Rand, first int) int {
	n := max(r.Intn(w.streams+1), r.Intn(w.streams+1))
	if n == w.streams && r.Intn(8) > 0 {
		n = max(n-1, 0)
	}
	return min(first+2*n, api.MaxIds)
}

// lives lets something happen on one: of its callers, or of its server.
func (p *plain) lives(w *twin, r *rand.Rand) {
	id, what := w.id(r, p.config.First), r.Intn(12)
	if w.streams == 0 && r.Intn(9) > 0 {
		what = 0 // of none a server says nothing
	}
	switch what {
	case 0, 1, 2:
		w.opens()
	case 3:
		for range api.MaxOpen {
			w.opens()
		}
	case 4, 5:
		w.both(func(c *conn.Conn) { c.Feed(answers(id)) })
	case 6:
		w.both(func(c *conn.Conn) { c.Feed(breaks(id)) })
	case 7:
		w.both(func(c *conn.Conn) { c.Cancel(id, api.OK); c.Forget(id) })
	case 8:
		many := r.Intn(9)
		w.both(func(c *conn.Conn) { c.Feed(lets(many)) })
	case 9:
		b := asks(r.Intn(9))
		w.both(func(c *conn.Conn) { c.Feed(b[:9]); c.Feed(b[9:]) })
	case 10:
		if r.Intn(2) == 0 {
			w.both(func(c *conn.Conn) { c.Feed(leaves(id)) })
		}
	case 11:
		if r.Intn(9) == 0 {
			w.both(func(c *conn.Conn) { c.Close() })
		}
	}
}

// waiting tells how many wait.
func waiting(r *rand.Rand) int {
	l := []int{0, -1, 1, 1, 2, r.Intn(99), -r.Intn(99), math.MaxInt, math.MinInt}
	return l[r.Intn(len(l))]
}

// step lets one thing happen.
func (p *plain) step(t *testing.T, x *Pool, r *rand.Rand, dials, sweeps int) {
	switch r.Intn(11) {
	case 0:
		p.wants(t, x, waiting(r))
	case 1:
		if r.Intn(dials) == 0 || len(p.list) < 2 {
			p.dial(t, x)
		}
	case 2:
		p.dialed(t, x, r.Intn(3) > 0, r)
	case 3:
		p.pick(t, x)
	case 4:
		p.at(t, x, r.Intn(p.next+4)-2)
	case 5:
		if r.Intn(sweeps) == 0 {
			p.sweep(t, x, r)
		}
	case 6:
		p.tick(t, x, r)
	case 7:
		p.all(t, x, r)
	default:
		if len(p.list) > 0 {
			p.lives(p.list[r.Intn(len(p.list))], r)
		}
	}
}

// enough holds that each of these happened often enough.
func enough(t *testing.T, happened map[string]int, least int, l ...string) {
	t.Helper()
	for _, what := range l {
		if happened[what] < least {
			t.Errorf("%q: %d times: too few to say anything", what, happened[what])
		}
	}
}

func TestDrawnP2301(t *testing.T) {
	r := rand.New(rand.NewSource(2301))
	happened := map[string]int{}
	for range 4000 {
		c := conn.Config{Window: 1 + r.Intn(200), First: 1 + 2*r.Intn(4), Every: 1 + r.Intn(6), Wait: 1 + r.Intn(6)}
		if r.Intn(6) == 0 {
			c.First = api.MaxIds - 2*r.Intn(9)
		}
		most := 1 + r.Intn(api.MaxConns)
		p := &plain{config: c, most: most, seldom: 1 + r.Intn(1+r.Intn(30)), happened: happened}
		x := made(t, c, most, 0)
		dials, sweeps := 1+r.Intn(9), 1+r.Intn(9) // how seldom these come
		for range 300 {
			p.step(t, x, r, dials, sweeps)
			p.holds(t, x, r)
		}
		stands(t, x, p.numbers()...)
		for _, l := range p.lists {
			if !slices.Equal(l[0], l[1]) {
				t.Fatalf("a list that was handed out was %v, and became %v", l[1], l[0])
			}
		}
	}
	enough(t, happened, 200,
		"Wants: none waits", "Wants: one Can", "Wants: somebody dials", "Wants: most live", "Wants: more live", "Wants", "Wants: though most are there",
		"Dial", "Dial: once more", "Dialed: none is", "Dialed: false", "Dialed: true", "Dialed: beyond most",
		"Pick: none there", "Pick: none Can", "Pick: the first", "Pick: a later one",
		"At", "At: it went", "At: none yet",
		"Sweep: Dead", "Sweep: Gone", "Sweep: Gone, but Busy", "Sweep: none", "Sweep", "Sweep: several",
		"Tick", "Tick: of a Dead one", "Tick: one breaks", "Tick: several break")
}
