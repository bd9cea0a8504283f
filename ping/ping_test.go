package ping

import (
	"encoding/binary"
	"math"
	"math/rand"
	"strings"
	"testing"
)

// Bodies of pings, byte by byte.
const (
	one   = "\x00\x00\x00\x00\x00\x00\x00\x01"
	two   = "\x00\x00\x00\x00\x00\x00\x00\x02"
	three = "\x00\x00\x00\x00\x00\x00\x00\x03"
)

// nth tells the body of the n-th ping.
func nth(n int) string { return string(binary.BigEndian.AppendUint64(nil, uint64(n))) }

// made tells a Health that must be there.
func made(t *testing.T, every, wait int) *Health {
	t.Helper()
	h := New(every, wait)
	if h == nil {
		t.Fatalf("New(%d, %d): nil", every, wait)
	}
	return h
}

// ticks holds what a Tick tells against what is wanted.
func ticks(t *testing.T, h *Health, body string, gone bool) {
	t.Helper()
	if b, is := h.Tick(); b != body || is != gone {
		t.Fatalf("Tick: %q, %v, not %q, %v", b, is, body, gone)
	}
}

// quiet holds that so many ticks tell nothing, and change nothing that is told.
func quiet(t *testing.T, h *Health, n int) {
	t.Helper()
	waits, sent := h.Waits(), h.Sent()
	for range n {
		ticks(t, h, "", false)
		tells(t, h, waits, sent)
	}
}

// pings holds that a ping goes with just the n-th tick from now on.
func pings(t *testing.T, h *Health, n int, body string) {
	t.Helper()
	sent := h.Sent()
	tells(t, h, false, sent)
	quiet(t, h, n-1)
	ticks(t, h, body, false)
	tells(t, h, true, sent+1)
}

// got holds what Got tells against what is wanted.
func got(t *testing.T, h *Health, body string, want bool) {
	t.Helper()
	if is := h.Got(body); is != want {
		t.Fatalf("Got(%q): %v, not %v", body, is, want)
	}
}

// tells holds what Waits and Sent tell against what is wanted.
func tells(t *testing.T, h *Health, waits bool, sent int) {
	t.Helper()
	if h.Waits() != waits || h.Sent() != sent {
		t.Fatalf("Waits, Sent: %v, %d, not %v, %d", h.Waits(), h.Sent(), waits, sent)
	}
}

// wrongs are texts that are no ping's body, or one of a number that is far from any.
func wrongs() []string {
	return []string{
		"", "\x00", "\x01", "1", one[1:], one[:7], one + "\x00", one + one, "\x00" + one, two[1:], two + "\x00",
		"\x01\x00\x00\x00\x00\x00\x00\x00", "\x00\x00\x00\x00\x00\x00\x01\x00", "\x00\x00\x00\x00\x00\x00\x01\x01",
		"\x80\x00\x00\x00\x00\x00\x00\x01", "\x00\x00\x00\x00\x01\x00\x00\x01", "\x00\x00\x00\x01\x00\x00\x00\x01",
		"\x00\x00\x00\x00\x00\x00\x00\x00", "\xff\xff\xff\xff\xff\xff\xff\xff", "\xff\xff\xff\xff\xff\xff\xff\xfe",
		"00000001", "       1", "12345678", "ping", strings.Repeat("\x00", 64),
	}
}

// lost holds all that one tells whose other side is gone.
func lost(t *testing.T, h *Health, sent int) {
	t.Helper()
	for range 3 {
		ticks(t, h, "", true)
		for _, b := range append(wrongs(), one, two, three, nth(sent-1), nth(sent), nth(sent+1)) {
			got(t, h, b, false)
		}
		tells(t, h, true, sent)
	}
}

func TestExampleP1701(t *testing.T) {
	ticks(t, made(t, 1, 2), "\x00\x00\x00\x00\x00\x00\x00\x01", false)
}

func TestNewP1701(t *testing.T) {
	wrong := []int{math.MinInt, -1 << 32, -1<<32 + 1, -100, -2, -1, 0}
	right := []int{1, 2, 3, 100, 1 << 16, 1 << 31, 1 << 32, math.MaxInt - 1, math.MaxInt}
	for _, w := range wrong {
		for _, x := range append(right, wrong...) {
			if New(w, x) != nil || New(x, w) != nil {
				t.Errorf("New of %d and %d: not nil", w, x)
			}
		}
	}
	for _, every := range right {
		for _, wait := range right {
			h := made(t, every, wait)
			tells(t, h, false, 0)
			got(t, h, one, false)
			if every < 1000 {
				pings(t, h, every, one)
				got(t, h, one, true)
			}
		}
	}
}

func TestTickOfAnyEveryP1701(t *testing.T) {
	for _, every := range []int{1, 2, 3, 7, 100, 1000} {
		for _, wait := range []int{1, 2, every, every + 1, math.MaxInt} {
			h := made(t, every, wait)
			pings(t, h, every, one)
			if wait > 1 {
				quiet(t, h, 1)
			}
			got(t, h, one, true)
			pings(t, h, every, two)
			got(t, h, two, true)
			pings(t, h, every, three)
		}
	}
}

func TestTickOfAnyWaitP1701(t *testing.T) {
	for _, wait := range []int{1, 2, 3, 7, 100, 1000} {
		for _, every := range []int{1, 2, wait, wait + 1, 3 * wait} {
			h := made(t, every, wait)
			pings(t, h, every, one)
			quiet(t, h, wait-1)
			ticks(t, h, "", true)
			lost(t, h, 1)
		}
	}
}

func TestTickOfTheGreatestP1701(t *testing.T) {
	h := made(t, math.MaxInt, 1)
	quiet(t, h, 1000)
	h = made(t, math.MaxInt-1, math.MaxInt)
	quiet(t, h, 1000)
	h = made(t, 1, math.MaxInt)
	pings(t, h, 1, one)
	quiet(t, h, 1000)
	got(t, h, one, true)
	pings(t, h, 1, two)
}

// No ping goes while one is under way, however many ticks go by.
func TestTickTellsNoPingWhileOneIsUnderWayP1701(t *testing.T) {
	h := made(t, 2, 50)
	pings(t, h, 2, one)
	quiet(t, h, 49)
	ticks(t, h, "", true)
	lost(t, h, 1)
}

func TestBodiesP1701(t *testing.T) {
	want := map[int]string{
		1: one, 2: two, 3: three,
		254:   "\x00\x00\x00\x00\x00\x00\x00\xfe",
		255:   "\x00\x00\x00\x00\x00\x00\x00\xff",
		256:   "\x00\x00\x00\x00\x00\x00\x01\x00",
		257:   "\x00\x00\x00\x00\x00\x00\x01\x01",
		301:   "\x00\x00\x00\x00\x00\x00\x01\x2d",
		65535: "\x00\x00\x00\x00\x00\x00\xff\xff",
		65536: "\x00\x00\x00\x00\x00\x01\x00\x00",
		65537: "\x00\x00\x00\x00\x00\x01\x00\x01",
		66051: "\x00\x00\x00\x00\x00\x01\x02\x03",
	}
	h := made(t, 1, 1)
	for i := 1; i <= 66051; i++ {
		b, gone := h.Tick()
		if w, is := want[i]; len(b) != 8 || gone || is && b != w {
			t.Fatalf("the ping %d: %q, %v, not %q, false", i, b, gone, w)
		}
		tells(t, h, true, i)
		got(t, h, b, true)
	}
}

// So many pings cannot go in a test: the number is laid in.
func TestBodiesOfGreatNumbersP1701(t *testing.T) {
	for _, x := range []struct {
		sent int
		want string
	}{
		{1<<24 - 1, "\x00\x00\x00\x00\x01\x00\x00\x00"},
		{0x12345677, "\x00\x00\x00\x00\x12\x34\x56\x78"},
		{1<<31 - 2, "\x00\x00\x00\x00\x7f\xff\xff\xff"},
		{0x0123456789abcdee, "\x01\x23\x45\x67\x89\xab\xcd\xef"},
	} {
		h := made(t, 1, 1)
		h.sent = x.sent
		pings(t, h, 1, x.want)
		got(t, h, x.want, true)
	}
}

func TestGotOfAnotherP1701(t *testing.T) {
	h := made(t, 2, 9)
	pings(t, h, 2, one)
	for _, b := range append(wrongs(), two, three) {
		got(t, h, b, false)
		tells(t, h, true, 1)
	}
	got(t, h, one, true)
	pings(t, h, 2, two)
	for _, b := range append(wrongs(), one, three) {
		got(t, h, b, false)
		tells(t, h, true, 2)
	}
	got(t, h, two, true)
	pings(t, h, 2, three)
	for _, b := range append(wrongs(), one, two) {
		got(t, h, b, false)
		tells(t, h, true, 3)
	}
	got(t, h, three, true)
	tells(t, h, false, 3)
}

// Each bit of a body counts.
func TestGotOfABodyWithOneBitTurnedP1701(t *testing.T) {
	h := made(t, 1, 9)
	pings(t, h, 1, one)
	for i := range 8 {
		for bit := range 8 {
			b := []byte(one)
			b[i] ^= 1 << bit
			got(t, h, string(b), false)
		}
	}
	got(t, h, one, true)
}

// An answer that is none does not let the other side be there any longer.
func TestGotOfAnotherLeavesTheTicksAsTheyAreP1701(t *testing.T) {
	h := made(t, 2, 3)
	pings(t, h, 2, one)
	got(t, h, two, false)
	quiet(t, h, 1)
	got(t, h, "", false)
	quiet(t, h, 1)
	got(t, h, two, false)
	ticks(t, h, "", true)
	lost(t, h, 1)
}

func TestGotWithNoneUnderWayP1701(t *testing.T) {
	h := made(t, 3, 3)
	none := func(sent int) {
		t.Helper()
		for _, b := range append(wrongs(), one, two, three) {
			got(t, h, b, false)
			tells(t, h, false, sent)
		}
	}
	for range 2 {
		none(0)
		quiet(t, h, 1)
	}
	none(0)
	ticks(t, h, one, false)
	got(t, h, one, true)
	for range 2 {
		none(1)
		quiet(t, h, 1)
	}
	none(1)
	ticks(t, h, two, false)
	tells(t, h, true, 2)
}

func TestGotASecondTimeP1701(t *testing.T) {
	h := made(t, 2, 3)
	pings(t, h, 2, one)
	got(t, h, one, true)
	got(t, h, one, false)
	quiet(t, h, 1)
	got(t, h, one, false)
	ticks(t, h, two, false)
	got(t, h, one, false)
	got(t, h, two, true)
	got(t, h, two, false)
	got(t, h, one, false)
	pings(t, h, 2, three)
}

func TestGotWhenTheOtherSideIsGoneP1701(t *testing.T) {
	h := made(t, 1, 1)
	pings(t, h, 1, one)
	ticks(t, h, "", true)
	got(t, h, one, false)
	lost(t, h, 1)
	h = made(t, 2, 4)
	for i := range 9 {
		pings(t, h, 2, nth(i+1))
		got(t, h, nth(i+1), true)
	}
	pings(t, h, 2, nth(10))
	quiet(t, h, 3)
	ticks(t, h, "", true)
	lost(t, h, 10)
}

func TestGotAtTheLastTickP1701(t *testing.T) {
	for _, wait := range []int{1, 2, 3, 10} {
		h := made(t, 3, wait)
		pings(t, h, 3, one)
		quiet(t, h, wait-1)
		got(t, h, one, true)
		pings(t, h, 3, two)
		quiet(t, h, wait-1)
		got(t, h, two, true)
		pings(t, h, 3, three)
		quiet(t, h, wait-1)
		ticks(t, h, "", true)
		lost(t, h, 3)
	}
}

// The ticks till the next ping are counted from the answer on, whenever it comes.
func TestTickBehindAnAnswerP1701(t *testing.T) {
	for _, every := range []int{1, 2, 5} {
		for behind := range 8 {
			h := made(t, every, 8)
			pings(t, h, every, one)
			quiet(t, h, behind)
			got(t, h, one, true)
			tells(t, h, false, 1)
			pings(t, h, every, two)
			quiet(t, h, 7)
			ticks(t, h, "", true)
			lost(t, h, 2)
		}
	}
}

// The ticks of one ping don't count for the next one.
func TestEachPingHasAllItsTicksP1701(t *testing.T) {
	h := made(t, 4, 5)
	for i := range 50 {
		pings(t, h, 4, nth(i+1))
		quiet(t, h, i%5)
		got(t, h, nth(i+1), true)
	}
	pings(t, h, 4, nth(51))
	quiet(t, h, 4)
	ticks(t, h, "", true)
	lost(t, h, 51)
}

func TestWaitsP1701(t *testing.T) {
	h := made(t, 2, 2)
	tells(t, h, false, 0)
	ticks(t, h, "", false)
	tells(t, h, false, 0)
	ticks(t, h, one, false)
	tells(t, h, true, 1)
	ticks(t, h, "", false)
	tells(t, h, true, 1)
	got(t, h, two, false)
	tells(t, h, true, 1)
	got(t, h, one, true)
	tells(t, h, false, 1)
	ticks(t, h, "", false)
	tells(t, h, false, 1)
}

// A ping without an answer is under way still, when the other side is gone.
func TestWaitsWhenTheOtherSideIsGoneP1701(t *testing.T) {
	h := made(t, 1, 1)
	pings(t, h, 1, one)
	ticks(t, h, "", true)
	tells(t, h, true, 1)
}

func TestSentP1701(t *testing.T) {
	h := made(t, 1, 2)
	tells(t, h, false, 0)
	for i := 1; i <= 600; i++ {
		ticks(t, h, nth(i), false)
		tells(t, h, true, i)
		ticks(t, h, "", false)
		got(t, h, nth(i), true)
		tells(t, h, false, i)
	}
	ticks(t, h, nth(601), false)
	ticks(t, h, "", false)
	ticks(t, h, "", true)
	lost(t, h, 601)
}

// What is asked changes nothing.
func TestAskingChangesNothingP1701(t *testing.T) {
	h := made(t, 3, 3)
	ask := func() {
		for range 10 {
			h.Waits()
			h.Sent()
		}
	}
	for _, want := range []string{"", "", one, "", ""} {
		ask()
		ticks(t, h, want, false)
	}
	ask()
	got(t, h, one, true)
	ask()
	pings(t, h, 3, two)
}

// idle holds all that one does that New did not make.
func idle(t *testing.T, h *Health) {
	t.Helper()
	for range 5 {
		quiet(t, h, 3)
		for _, b := range append(wrongs(), one, two) {
			got(t, h, b, false)
		}
		tells(t, h, false, 0)
	}
}

func TestNilP1701(t *testing.T) { idle(t, nil) }

func TestZeroP1701(t *testing.T) {
	idle(t, new(Health))
	idle(t, &Health{})
	var h Health
	idle(t, &h)
}

func TestTwoSideBySideP1701(t *testing.T) {
	a, b := made(t, 1, 2), made(t, 2, 1)
	ticks(t, a, one, false)
	tells(t, b, false, 0)
	got(t, b, one, false)
	ticks(t, b, "", false)
	ticks(t, b, one, false)
	got(t, b, one, true)
	tells(t, a, true, 1)
	got(t, a, one, true)
	ticks(t, a, two, false)
	got(t, b, two, false)
	ticks(t, a, "", false)
	ticks(t, a, "", true)
	lost(t, a, 2)
	pings(t, b, 2, two)
	got(t, b, two, true)
	pings(t, b, 2, three)
	ticks(t, b, "", true)
	lost(t, b, 3)
	lost(t, a, 2)
}

// Two that were made alike go on alike, whatever a third one of the kind does.
func TestTwoAlikeP1701(t *testing.T) {
	a, b, c := made(t, 2, 3), made(t, 2, 3), made(t, 2, 3)
	for i := range 20 {
		pings(t, a, 2, nth(i+1))
		c.Tick()
		pings(t, b, 2, nth(i+1))
		got(t, a, nth(i+1), true)
		c.Tick()
		got(t, b, nth(i+1), true)
	}
	lost(t, c, 1)
}

// story is all that has happened to a Health, at which tick.
type story struct {
	every, wait, now int
	went, answered   []int // of each ping: the tick at which it went, and at which its answer came
}

// waits tells whether more pings went than were answered.
func (s *story) waits() bool { return len(s.went) > len(s.answered) }

// gone tells whether the last ping is without an answer too long.
func (s *story) gone() bool { return s.waits() && s.now-s.went[len(s.went)-1] >= s.wait }

// tick tells by the chapter's words what a Tick tells.
func (s *story) tick() (string, bool) {
	s.now++
	if s.waits() {
		return "", s.gone()
	}
	since := 0
	if n := len(s.answered); n > 0 {
		since = s.answered[n-1]
	}
	if s.now-since != s.every {
		return "", false
	}
	s.went = append(s.went, s.now)
	return nth(len(s.went)), false
}

// got tells by the chapter's words what Got tells.
func (s *story) got(body string) bool {
	if !s.waits() || s.gone() || body != nth(len(s.went)) {
		return false
	}
	s.answered = append(s.answered, s.now)
	return true
}

// drawnBody tells a body, most often one of a ping near the last one.
func drawnBody(r *rand.Rand, s *story) string {
	if r.Intn(6) == 0 {
		return wrongs()[r.Intn(len(wrongs()))]
	}
	return nth(max(len(s.went)+[]int{-1, 0, 0, 0, 0, 1}[r.Intn(6)], 0))
}

func TestHealthByItsWordsP1701(t *testing.T) {
	r := rand.New(rand.NewSource(17))
	var went, gone, taken, refused, late int
	for range 5000 {
		s := &story{every: 1 + r.Intn(5), wait: 1 + r.Intn(6)}
		h := made(t, s.every, s.wait)
		silent := r.Intn(8) // how seldom an answer comes
		for range 60 {
			if r.Intn(8) >= silent {
				body := drawnBody(r, s)
				if s.gone() && body == nth(len(s.went)) {
					late++
				}
				want := s.got(body)
				got(t, h, body, want)
				if want {
					taken++
				} else {
					refused++
				}
			} else {
				body, is := s.tick()
				ticks(t, h, body, is)
				if is {
					gone++
				} else if body != "" {
					went++
				}
			}
			tells(t, h, s.waits(), len(s.went))
		}
	}
	if min(went, gone, taken, refused, late) < 1000 {
		t.Errorf("%d went, %d times gone, %d taken, %d refused, %d late: too few to say anything", went, gone, taken, refused, late)
	}
}
