package pool

import (
	"math"
	"slices"
	"strings"
	"testing"

	"bywash/api"
	"bywash/conn"
	"bywash/frame"
)

var usual = conn.Config{Window: 100, First: 1, Every: 3, Wait: 2}

// made tells a pool that must be there, with so many connections in it.
func made(t *testing.T, c conn.Config, most, n int) *Pool {
	t.Helper()
	p := New(c, most)
	if p == nil {
		t.Fatalf("New(%v, %d): nil", c, most)
	}
	stands(t, p)
	comes(t, p, n)
	return p
}

// comes lets so many connections come to be.
func comes(t *testing.T, p *Pool, n int) {
	t.Helper()
	l := p.All()
	for range n {
		dial(t, p, true)
		k, was := p.Dialed(true)
		if !was || k < 1 || slices.Contains(l, k) {
			t.Fatalf("Dialed(true) beside %v: %d, %v", l, k, was)
		}
		l = append(l, k)
	}
	stands(t, p, l...)
}

// wants holds what Wants tells against what is wanted, with any that wait.
func wants(t *testing.T, p *Pool, want bool) {
	t.Helper()
	for _, n := range []int{1, 2, 3, 12, 13, 1 << 32, math.MaxInt} {
		if is := p.Wants(n); is != want {
			t.Fatalf("Wants(%d): %v, not %v", n, is, want)
		}
	}
	for _, n := range []int{0, -1, -2, -12, -1<<32 + 1, math.MinInt, math.MinInt + 1} {
		if p.Wants(n) {
			t.Fatalf("Wants(%d): true, though none waits", n)
		}
	}
}

// dial holds what Dial tells against what is wanted.
func dial(t *testing.T, p *Pool, want bool) {
	t.Helper()
	if is := p.Dial(); is != want {
		t.Fatalf("Dial: %v, not %v", is, want)
	}
	if n := p.Dialing(); n != 1 {
		t.Fatalf("Dialing behind Dial: %d, not 1", n)
	}
}

// dialed holds what Dialed tells against what is wanted.
func dialed(t *testing.T, p *Pool, ok bool, k int, was bool) {
	t.Helper()
	if got, is := p.Dialed(ok); got != k || is != was {
		t.Fatalf("Dialed(%v): %d, %v, not %d, %v", ok, got, is, k, was)
	}
	if n := p.Dialing(); n != 0 {
		t.Fatalf("Dialing behind Dialed: %d, not 0", n)
	}
}

// picks holds what Pick tells against what is wanted; 0: none.
func picks(t *testing.T, p *Pool, want int) {
	t.Helper()
	for range 2 {
		if k, is := p.Pick(); k != want || is != (want != 0) {
			t.Fatalf("Pick: %d, %v, not %d", k, is, want)
		}
	}
}

// sweeps holds what Sweep tells against what is wanted.
func sweeps(t *testing.T, p *Pool, want ...int) {
	t.Helper()
	if l := p.Sweep(); !slices.Equal(l, want) {
		t.Fatalf("Sweep: %v, not %v", l, want)
	}
	for range 2 {
		if l := p.Sweep(); len(l) != 0 {
			t.Fatalf("Sweep once more: %v, not none", l)
		}
	}
}

// ticks holds what Tick tells against what is wanted.
func ticks(t *testing.T, p *Pool, want ...int) {
	t.Helper()
	if l := p.Tick(); !slices.Equal(l, want) {
		t.Fatalf("Tick: %v, not %v", l, want)
	}
}

// stands holds that just these are there, each the same at each call, and none that another one is.
func stands(t *testing.T, p *Pool, want ...int) {
	t.Helper()
	if l := p.All(); !slices.Equal(l, want) {
		t.Fatalf("All: %v, not %v", l, want)
	}
	lacks := []int{0, -1, -2, -3, 1 << 32, -1 << 32, math.MaxInt, math.MinInt}
	for k := range 9 {
		lacks = append(lacks, k)
	}
	for _, k := range want {
		lacks = append(lacks, k-1, k+1, -k, k+1<<32)
	}
	for _, k := range lacks {
		if !slices.Contains(want, k) && p.At(k) != nil {
			t.Fatalf("At(%d): one, though only %v are there", k, want)
		}
	}
	seen := map[*conn.Conn]int{}
	for _, k := range want {
		c := p.At(k)
		if c == nil || c != p.At(k) || seen[c] != 0 {
			t.Fatalf("At(%d): %p, then %p; it is also %d", k, c, p.At(k), seen[c])
		}
		seen[c] = k
	}
}

func bytesOf(f api.Frame) string {
	b, ok := frame.Put(f)
	if !ok {
		panic("a frame that may not be")
	}
	return b
}

func four(n int) string { return string([]byte{byte(n >> 24), byte(n >> 16), byte(n >> 8), byte(n)}) }

func greets() string { return bytesOf(api.Frame{Kind: api.Settings}) }

// lets tells Settings that let so many streams be open.
func lets(many int) string {
	return bytesOf(api.Frame{Kind: api.Settings, Body: "\x00\x03" + four(many)})
}

// leaves tells that the server goes away, behind the stream last.
func leaves(last int) string { return bytesOf(api.Frame{Kind: api.Away, Body: four(last) + four(0)}) }

// answers tells a whole response of a stream.
func answers(id int) string {
	return bytesOf(api.Frame{Kind: api.Headers, Flags: api.Whole | api.End, Id: id, Body: "\x87"})
}

func breaks(id int) string {
	return bytesOf(api.Frame{Kind: api.Reset, Id: id, Body: four(api.CodeRefused)})
}

func asks(n int) string { return bytesOf(api.Frame{Kind: api.Ping, Body: four(0) + four(n)}) }

func echo(n int) string {
	return bytesOf(api.Frame{Kind: api.Ping, Flags: api.Ack, Body: four(0) + four(n)})
}

// feeds lets a server say that to a connection, which stays whole by it.
func feeds(t *testing.T, p *Pool, k int, b string) {
	t.Helper()
	if e := p.At(k).Feed(b); e != api.OK {
		t.Fatalf("Feed(%q) of %d: %d", b, k, e)
	}
}

func get() api.Request {
	return api.Request{Method: "GET", Scheme: "http", Authority: "a", Path: "/"}
}

// opens opens so many streams of one.
func opens(t *testing.T, p *Pool, k, n int) {
	t.Helper()
	for range n {
		if _, e := p.At(k).Open(get()); e != api.OK {
			t.Fatalf("Open of %d: %d", k, e)
		}
	}
}

func TestExampleP2301(t *testing.T) {
	p := made(t, usual, 1, 0)
	if !p.Wants(1) || !p.Dial() {
		t.Error("Wants(1), Dial: not true, true")
	}
	dialed(t, p, true, 1, true)
	picks(t, p, 1)
}

func TestNewMostP2301(t *testing.T) {
	for _, most := range []int{math.MinInt, math.MinInt + 1, -1 << 32, -1<<32 + 1, -3, -2, -1, 0, 4, 5, 6, 12, 1 << 32, 1<<32 + 1, math.MaxInt - 1, math.MaxInt} {
		if New(usual, most) != nil {
			t.Errorf("New of %d: not nil", most)
		}
		if New(conn.Config{}, most) != nil {
			t.Errorf("New of nothing, and %d: not nil", most)
		}
	}
	for most := 1; most <= api.MaxConns; most++ {
		p := made(t, usual, most, 0)
		for k := 1; k <= most; k++ {
			wants(t, p, true)
			dial(t, p, true)
			dialed(t, p, true, k, true)
			wants(t, p, false)
			opens(t, p, k, api.MaxOpen)
		}
		wants(t, p, false)
	}
}

// configs tells the usual one with one part turned: such as may not be, or such as may.
func configs(right bool) []conn.Config {
	with := func(turn func(c *conn.Config, n int), wrong, at []int) []conn.Config {
		var l []conn.Config
		if right {
			wrong = at
		}
		for _, n := range wrong {
			c := usual
			turn(&c, n)
			l = append(l, c)
		}
		return l
	}
	return slices.Concat(
		with(func(c *conn.Config, n int) { c.Window = n }, []int{0, -1, -100, 65536, 1 << 31, 1<<32 + 1, math.MaxInt, math.MinInt}, []int{1, 2, 65534, 65535}),
		with(func(c *conn.Config, n int) { c.First = n }, []int{0, 2, -1, -2, 4, api.MaxIds - 1, api.MaxIds + 1, api.MaxIds + 2, 1<<32 + 1, math.MaxInt, math.MinInt, math.MinInt + 1}, []int{1, 3, api.MaxIds - 2, api.MaxIds}),
		with(func(c *conn.Config, n int) { c.Every = n }, []int{0, -1, -2, math.MinInt}, []int{1, 2, math.MaxInt - 1, math.MaxInt}),
		with(func(c *conn.Config, n int) { c.Wait = n }, []int{0, -1, -2, math.MinInt}, []int{1, 2, math.MaxInt - 1, math.MaxInt}),
	)
}

func TestNewConfigP2301(t *testing.T) {
	for _, c := range append(configs(false), conn.Config{}) {
		for most := -1; most <= api.MaxConns+1; most++ {
			if New(c, most) != nil {
				t.Errorf("New(%v, %d): not nil", c, most)
			}
		}
	}
	for _, c := range configs(true) {
		for most := 1; most <= api.MaxConns; most++ {
			made(t, c, most, 2)
		}
	}
}

// Each connection is as a conn.New of the Config, and as no other one.
func TestConfigOfEachP2301(t *testing.T) {
	for _, c := range append(configs(true), usual) {
		p, alone := made(t, c, 1, 3), conn.New(c)
		opens(t, p, 2, 1)
		alone.Open(get())
		said := alone.Take(999)
		for k, want := range map[int]string{1: conn.New(c).Take(999), 2: said, 3: conn.New(c).Take(999)} {
			if got := p.At(k).Take(999); got != want {
				t.Errorf("%v: %d says %q, not %q", c, k, got, want)
			}
		}
		for range 9 {
			e := alone.Tick()
			p.Tick()
			said = alone.Take(99)
			for _, k := range p.All() {
				if got := p.At(k).Take(99); got != said || e == api.OK != (p.At(k).Dead() == api.OK) {
					t.Errorf("%v: behind a Tick %d says %q, not %q", c, k, got, said)
				}
			}
		}
	}
}

// What is handed in is the caller's own, as is another pool.
func TestApartP2301(t *testing.T) {
	c := usual
	p := made(t, c, 2, 0)
	c.Window, c.First = 7, 9
	q := made(t, c, 2, 0)
	c = conn.Config{}
	comes(t, p, 1)
	wants(t, q, true)
	dial(t, q, true)
	dialed(t, p, true, 0, false)
	dialed(t, q, true, 1, true)
	if got, want := p.At(1).Take(999), conn.New(usual).Take(999); got != want {
		t.Errorf("the first one says %q, not %q", got, want)
	}
	opens(t, p, 1, 1)
	p.At(1).Close()
	if id, e := q.At(1).Open(get()); id != 9 || e != api.OK {
		t.Errorf("the other pool's Open: %d, %d, not 9", id, e)
	}
	sweeps(t, q)
	sweeps(t, p, 1)
	stands(t, q, 1)
}

func TestDialP2301(t *testing.T) {
	p := made(t, usual, 2, 0)
	for range 3 {
		dialed(t, p, true, 0, false)
		dialed(t, p, false, 0, false)
	}
	stands(t, p)
	dial(t, p, true)
	for range 3 {
		dial(t, p, false)
	}
	stands(t, p)
	dialed(t, p, false, 0, true)
	dialed(t, p, false, 0, false)
	dialed(t, p, true, 0, false)
	stands(t, p)
	dial(t, p, true)
	dial(t, p, false)
	dialed(t, p, true, 1, true)
	dialed(t, p, true, 0, false)
	dialed(t, p, false, 0, false)
	stands(t, p, 1)
}

func TestNumbersP2301(t *testing.T) {
	p := made(t, usual, 1, 0)
	for k := 1; k < 200; k++ {
		for range k % 4 {
			dial(t, p, true)
			dialed(t, p, false, 0, true)
		}
		dial(t, p, true)
		dialed(t, p, true, k, true)
		stands(t, p, k)
		p.At(k).Close()
		sweeps(t, p, k)
		stands(t, p)
	}
	comes(t, p, 3)
	stands(t, p, 200, 201, 202)
	p.At(202).Close()
	p.At(200).Close()
	sweeps(t, p, 200, 202)
	dial(t, p, true)
	dialed(t, p, true, 203, true)
	stands(t, p, 201, 203)
}

// A caller may dial whatever Wants tells.
func TestDialBeyondP2301(t *testing.T) {
	for most := 1; most <= api.MaxConns; most++ {
		p := made(t, usual, most, most)
		for k := most + 1; k < most+9; k++ {
			wants(t, p, false)
			dial(t, p, true)
			wants(t, p, false)
			dialed(t, p, false, 0, true)
			dial(t, p, true)
			dialed(t, p, true, k, true)
			opens(t, p, k, api.MaxOpen)
		}
		for k := 1; k <= most; k++ {
			opens(t, p, k, api.MaxOpen)
		}
		wants(t, p, false) // more than most live
		for k := range 8 {
			p.At(k + 1).Close()
		}
		wants(t, p, false) // just most live
		p.At(9).Close()
		wants(t, p, true)
	}
}

func TestWantsNobodyP2301(t *testing.T) {
	p := made(t, usual, 1, 0)
	wants(t, p, true)
	dial(t, p, true)
	wants(t, p, false)
	dialed(t, p, false, 0, true)
	wants(t, p, true)
	dial(t, p, true)
	dialed(t, p, true, 1, true)
	wants(t, p, false)
}

func TestWantsCanP2301(t *testing.T) {
	p := made(t, usual, 3, 1)
	opens(t, p, 1, api.MaxOpen-1)
	wants(t, p, false)
	opens(t, p, 1, 1)
	wants(t, p, true)
	dial(t, p, true)
	wants(t, p, false) // somebody dials
	dialed(t, p, true, 2, true)
	wants(t, p, false) // the second one Can
	opens(t, p, 2, api.MaxOpen)
	wants(t, p, true)
	feeds(t, p, 1, greets()+answers(1))
	wants(t, p, false) // the first one Can again
	p.At(1).Close()
	wants(t, p, true)
}

// At one's end, by each way to it, Wants lets another one be.
func TestWantsOfEndsP2301(t *testing.T) {
	for most := 1; most <= api.MaxConns; most++ {
		for at := 1; at <= most; at++ {
			for _, end := range []func(p *Pool){
				func(p *Pool) { p.At(at).Close() },
				func(p *Pool) { p.At(at).Feed(answers(1)) }, // no Settings ahead of it
				func(p *Pool) { feeds(t, p, at, greets()+leaves(api.MaxIds)) },
				func(p *Pool) { feeds(t, p, at, greets()+leaves(3)) },
				func(p *Pool) { feeds(t, p, at, greets()+leaves(0)) },
			} {
				p := made(t, usual, most, most)
				for k := 1; k <= most; k++ {
					opens(t, p, k, api.MaxOpen)
				}
				wants(t, p, false)
				end(p)
				wants(t, p, true)
				p.Sweep()
				wants(t, p, true)
				comes(t, p, 1)
				wants(t, p, false)
				opens(t, p, most+1, api.MaxOpen)
				wants(t, p, false)
			}
		}
	}
}

// A connection on which no more may be opened is Gone when its numbers are given.
func TestNoNumberLeftP2301(t *testing.T) {
	c := usual
	c.First = api.MaxIds - 2
	p := made(t, c, 1, 1)
	opens(t, p, 1, 1)
	picks(t, p, 1)
	wants(t, p, false)
	opens(t, p, 1, 1)
	picks(t, p, 0)
	wants(t, p, true)
	sweeps(t, p)
	feeds(t, p, 1, greets()+answers(api.MaxIds))
	sweeps(t, p)
	wants(t, p, true)
	feeds(t, p, 1, answers(api.MaxIds-2))
	stands(t, p, 1)
	sweeps(t, p, 1)
	wants(t, p, true)
}

func TestPickP2301(t *testing.T) {
	p := made(t, usual, 3, 0)
	picks(t, p, 0)
	dial(t, p, true)
	picks(t, p, 0)
	dialed(t, p, true, 1, true)
	picks(t, p, 1)
	comes(t, p, 2)
	for k := 1; k <= 3; k++ {
		for range api.MaxOpen {
			picks(t, p, k)
			opens(t, p, k, 1)
		}
	}
	picks(t, p, 0)
	feeds(t, p, 3, greets()+answers(5))
	picks(t, p, 3)
	feeds(t, p, 2, greets()+breaks(1))
	picks(t, p, 2)
	if e := p.At(1).Cancel(11, api.OK); e != api.OK {
		t.Fatalf("Cancel: %d", e)
	}
	picks(t, p, 1)
	feeds(t, p, 1, greets()+leaves(99))
	picks(t, p, 2)
	sweeps(t, p)
	picks(t, p, 2)
	p.At(2).Close()
	picks(t, p, 3)
	sweeps(t, p, 2)
	picks(t, p, 3)
	opens(t, p, 3, 1)
	picks(t, p, 0)
	p.At(1).Close()
	sweeps(t, p, 1)
	picks(t, p, 0)
	comes(t, p, 1)
	picks(t, p, 4)
}

// Of those that Can it is the least number, whichever they are.
func TestPickOfAllP2301(t *testing.T) {
	for which := range 1 << 6 {
		p := made(t, usual, 3, 6)
		least := 0
		for k := 6; k >= 1; k-- {
			if which>>(k-1)&1 == 0 {
				opens(t, p, k, api.MaxOpen)
			} else {
				least = k
			}
		}
		picks(t, p, least)
		if p.Wants(1) {
			t.Fatal("Wants(1) of six that live: true")
		}
	}
}

// What a server lets be open counts.
func TestPickByServerP2301(t *testing.T) {
	p := made(t, usual, 3, 2)
	feeds(t, p, 1, lets(0))
	picks(t, p, 2)
	wants(t, p, false)
	feeds(t, p, 2, lets(0))
	picks(t, p, 0)
	wants(t, p, true)
	feeds(t, p, 2, lets(1))
	picks(t, p, 2)
	wants(t, p, false)
	opens(t, p, 2, 1)
	picks(t, p, 0)
	feeds(t, p, 1, lets(2))
	picks(t, p, 1)
	opens(t, p, 1, 2)
	wants(t, p, true)
	feeds(t, p, 2, lets(999))
	picks(t, p, 2)
	feeds(t, p, 1, lets(3))
	picks(t, p, 1)
	feeds(t, p, 1, lets(2))
	picks(t, p, 2)
	sweeps(t, p) // that no more may be open is no end
	stands(t, p, 1, 2)
}

func TestAtP2301(t *testing.T) {
	p := made(t, usual, 3, 0)
	stands(t, p)
	dial(t, p, true)
	stands(t, p)
	dialed(t, p, true, 1, true)
	first := p.At(1)
	stands(t, p, 1)
	comes(t, p, 2)
	third := p.At(3)
	if p.At(1) != first {
		t.Error("At(1) is another one behind Dialed")
	}
	p.At(2).Close()
	if first.Dead() != api.OK || third.Dead() != api.OK {
		t.Error("others are Dead by a Close of the second one")
	}
	ticks(t, p)
	sweeps(t, p, 2)
	stands(t, p, 1, 3)
	if p.At(1) != first || p.At(3) != third {
		t.Error("At tells other ones behind Sweep")
	}
	first.Close() // by a pointer that was told long ago
	picks(t, p, 3)
	sweeps(t, p, 1)
	if p.At(1) != nil || first.Dead() != api.ErrClosed {
		t.Error("one that went is told, or was turned")
	}
	comes(t, p, 1)
	stands(t, p, 3, 4)
	for range api.MaxOpen {
		third.Open(get())
	}
	picks(t, p, 4)
	for range api.MaxOpen {
		p.At(4).Open(get())
	}
	wants(t, p, true)
}

func TestSweepP2301(t *testing.T) {
	p := made(t, usual, 3, 0)
	sweeps(t, p)
	comes(t, p, 1)
	sweeps(t, p)
	opens(t, p, 1, 2)
	feeds(t, p, 1, greets()+leaves(1)) // the other one is over by it
	if n := p.At(1).Busy(); n != 1 {
		t.Fatalf("Busy: %d, not 1", n)
	}
	sweeps(t, p)
	stands(t, p, 1)
	feeds(t, p, 1, answers(1))
	stands(t, p, 1)
	sweeps(t, p, 1)
	stands(t, p)
	comes(t, p, 1)
	feeds(t, p, 2, greets()+leaves(0))
	sweeps(t, p, 2)
	comes(t, p, 1)
	opens(t, p, 3, 2)
	p.At(3).Close()
	sweeps(t, p, 3)
	comes(t, p, 1)
	feeds(t, p, 4, greets())
	opens(t, p, 4, 1)
	feeds(t, p, 4, answers(1)) // with nothing open, but not Gone
	sweeps(t, p)
	if p.At(4).Feed(leaves(0)+"\x00\x00\xff\x00\x00\x00\x00\x00\x00") != api.ErrSize {
		t.Fatal("a frame that is too long breaks no connection")
	}
	sweeps(t, p, 4)
}

// What goes is turned neither by Sweep nor by a Tick behind it.
func TestSweepLeavesThemP2301(t *testing.T) {
	p := made(t, usual, 3, 2)
	opens(t, p, 1, 1)
	p.At(1).Close()
	feeds(t, p, 2, greets())
	opens(t, p, 2, 1)
	feeds(t, p, 2, answers(1)+leaves(1))
	dead, gone := p.At(1), p.At(2)
	twin := conn.New(usual)
	twin.Feed(greets())
	twin.Open(get())
	twin.Feed(answers(1) + leaves(1))
	sweeps(t, p, 1, 2)
	for range 9 {
		ticks(t, p)
	}
	if got, want := gone.Take(999), twin.Take(999); got != want || gone.Dead() != api.OK {
		t.Errorf("one that went says %q, not %q", got, want)
	}
	if i, e := gone.Info(1); i.Status != 200 || !i.Done || e != api.OK {
		t.Errorf("Info of one that went: %v, %d", i, e)
	}
	if i, e := dead.Info(1); i.Err != api.ErrDead || e != api.OK {
		t.Errorf("Info of one that was Dead: %v, %d", i, e)
	}
}

// Any of six go, by either way, and the others stay in their order.
func TestSweepOfManyP2301(t *testing.T) {
	for which := range 1 << 6 {
		p := made(t, usual, 3, 6)
		var go1, stay []int
		for k := 1; k <= 6; k++ {
			switch {
			case which>>(k-1)&1 == 0:
				stay = append(stay, k)
			case (which+k)%3 == 0:
				feeds(t, p, k, greets()+leaves(0))
				go1 = append(go1, k)
			default:
				p.At(k).Close()
				go1 = append(go1, k)
			}
		}
		var kept []*conn.Conn
		for _, k := range stay {
			kept = append(kept, p.At(k))
		}
		stands(t, p, 1, 2, 3, 4, 5, 6)
		sweeps(t, p, go1...)
		stands(t, p, stay...)
		for i, k := range stay {
			if p.At(k) != kept[i] {
				t.Fatalf("%d is another one behind Sweep of %v", k, go1)
			}
		}
		comes(t, p, 1)
		stands(t, p, append(stay, 7)...)
	}
}

// A dial that is under way is neither ended nor begun by anything else.
func TestDialingBesideP2301(t *testing.T) {
	p := made(t, usual, 2, 2)
	dial(t, p, true)
	p.At(1).Close()
	sweeps(t, p, 1)
	for range 9 {
		p.Tick()
	}
	sweeps(t, p, 2)
	p.Pick()
	p.Wants(3)
	p.All()
	dial(t, p, false)
	wants(t, p, false)
	dialed(t, p, true, 3, true)
	stands(t, p, 3)
	p.At(3).Close()
	wants(t, p, true)
	if n := p.Dialing(); n != 0 {
		t.Errorf("Dialing behind Wants: %d, not 0", n)
	}
}

func TestTickP2301(t *testing.T) {
	p := made(t, usual, 3, 0) // asked at the third Tick, and over at the fifth
	for range 9 {
		ticks(t, p)
	}
	comes(t, p, 1)
	for range 4 {
		ticks(t, p)
	}
	ticks(t, p, 1)
	if e := p.At(1).Dead(); e != api.ErrLate {
		t.Errorf("Dead: %d, not ErrLate", e)
	}
	for range 4 {
		ticks(t, p) // it was Dead ahead of these
	}
	stands(t, p, 1)
	wants(t, p, true)
	sweeps(t, p, 1)
	stands(t, p)
}

func TestTickOfSeveralP2301(t *testing.T) {
	p := made(t, usual, 3, 1)
	ticks(t, p)
	comes(t, p, 2)
	ticks(t, p)
	comes(t, p, 1)
	ticks(t, p)
	ticks(t, p)
	ticks(t, p, 1)
	ticks(t, p, 2, 3)
	comes(t, p, 1)
	ticks(t, p, 4)
	stands(t, p, 1, 2, 3, 4, 5)
	sweeps(t, p, 1, 2, 3, 4)
	for range 3 {
		ticks(t, p)
	}
	ticks(t, p, 5)
	sweeps(t, p, 5)
}

// One that is Dead ahead of it, by whatever way, did not break by this Tick.
func TestTickOfDeadP2301(t *testing.T) {
	p := made(t, usual, 3, 4)
	p.At(1).Close()
	p.At(3).Feed(answers(1))
	for range 4 {
		ticks(t, p)
	}
	p.At(4).Tick() // its fifth, by its caller
	if p.At(4).Dead() != api.ErrLate {
		t.Fatal("the fourth one is not Dead")
	}
	ticks(t, p, 2)
	ticks(t, p)
	stands(t, p, 1, 2, 3, 4)
	sweeps(t, p, 1, 2, 3, 4)
}

// Each asks its own server, and each server's answer is its own.
func TestTickOfAnswersP2301(t *testing.T) {
	p := made(t, usual, 3, 3)
	for _, k := range p.All() {
		feeds(t, p, k, greets())
		p.At(k).Take(999)
	}
	for n := range 200 {
		for i := range 3 {
			ticks(t, p)
			for _, k := range p.All() {
				want := ""
				if i == 2 {
					want = asks(n + 1)
				}
				if got := p.At(k).Take(99); got != want {
					t.Fatalf("%d says %q, not %q", k, got, want)
				}
			}
		}
		for _, k := range p.All() {
			feeds(t, p, k, echo(n+1))
		}
	}
	for range 3 {
		ticks(t, p)
	}
	feeds(t, p, 2, echo(201))
	feeds(t, p, 3, echo(200)) // of another one
	ticks(t, p)
	ticks(t, p, 1, 3)
	feeds(t, p, 2, asks(1)) // a question is no answer
	ticks(t, p)
	ticks(t, p)
	ticks(t, p, 2)
	if !strings.HasSuffix(p.At(1).Take(99), bytesOf(api.Frame{Kind: api.Away, Body: four(0) + four(0)})) {
		t.Error("one that broke says no last word")
	}
}

// A server that went away is asked, too.
func TestTickOfGoneP2301(t *testing.T) {
	p := made(t, usual, 3, 2)
	opens(t, p, 1, 1)
	feeds(t, p, 1, greets()+leaves(1))
	feeds(t, p, 2, greets()+leaves(0))
	for range 4 {
		ticks(t, p)
	}
	ticks(t, p, 1, 2)
	sweeps(t, p, 1, 2)
}

// A list that was handed out is the caller's own.
func TestListsP2301(t *testing.T) {
	turn := func(l []int) {
		for i := range l {
			l[i] = -7
		}
		l = append(l[:0], 9, 8, 7, 6, 5, 4, 3, 2)
		slices.Sort(l)
	}
	p := made(t, usual, 3, 4)
	kept := p.All()
	turn(p.All())
	turn(append(p.All()[:1], 77))
	stands(t, p, 1, 2, 3, 4)
	turn(p.Tick())
	p.At(2).Close()
	p.At(3).Close()
	turn(p.Sweep())
	stands(t, p, 1, 4)
	comes(t, p, 2)
	stands(t, p, 1, 4, 5, 6)
	if !slices.Equal(kept, []int{1, 2, 3, 4}) {
		t.Errorf("a list that was handed out became %v", kept)
	}
	for range 3 {
		turn(p.Tick())
	}
	broke := p.Tick()
	if !slices.Equal(broke, []int{1, 4}) {
		t.Fatalf("Tick: %v, not [1 4]", broke)
	}
	went := p.Sweep()
	turn(broke)
	if !slices.Equal(went, []int{1, 4}) {
		t.Errorf("what Sweep told became %v by a turn of what Tick told", went)
	}
	all := p.All()
	turn(went)
	if !slices.Equal(all, []int{5, 6}) {
		t.Errorf("what All told became %v", all)
	}
	stands(t, p, 5, 6)
}

// A nil one, and a zero one, have nothing and do nothing.
func TestNoneP2301(t *testing.T) {
	for what, p := range map[string]*Pool{"nil": nil, "zero": {}} {
		for range 3 {
			for _, n := range []int{1, 0, -1, 3, 12, math.MaxInt, math.MinInt} {
				if p.Wants(n) {
					t.Errorf("%s: Wants(%d): true", what, n)
				}
				if p.At(n) != nil {
					t.Errorf("%s: At(%d): not nil", what, n)
				}
			}
			if p.Dial() {
				t.Errorf("%s: Dial: true", what)
			}
			for _, ok := range []bool{true, false} {
				if k, was := p.Dialed(ok); k != 0 || was {
					t.Errorf("%s: Dialed(%v): %d, %v", what, ok, k, was)
				}
			}
			if k, is := p.Pick(); k != 0 || is {
				t.Errorf("%s: Pick: %d, %v", what, k, is)
			}
			if p.Dialing() != 0 || len(p.All()) != 0 || len(p.Sweep()) != 0 || len(p.Tick()) != 0 {
				t.Errorf("%s: Dialing, All, Sweep or Tick tells something", what)
			}
		}
	}
}
