package prefs

import (
	"math"
	"math/rand"
	"slices"
	"strings"
	"testing"

	"bywash/api"
)

// told is what Apply tells.
type told struct {
	p    Prefs
	code int
	e    api.Errno
}

// odd are settings of which each differs from First's and from all limits, so that one that is lost shows.
func odd() Prefs { return Prefs{Table: 11, Many: 2, Window: 13, Frame: 77, List: 19} }

// set tells a setting.
func set(id, value int) api.Pref { return api.Pref{Id: id, Value: value} }

func fine(p Prefs) told  { return told{p, api.CodeNone, api.OK} }
func flow(p Prefs) told  { return told{p, api.CodeFlow, api.ErrFlow} }
func proto(p Prefs) told { return told{p, api.CodeProtocol, api.ErrProto} }

// apply holds what Apply tells against what is wanted.
func apply(t *testing.T, want told, p Prefs, l ...api.Pref) {
	t.Helper()
	q, code, e := Apply(p, l...)
	if got := (told{q, code, e}); got != want {
		t.Errorf("Apply(%v, %v): %v, not %v", p, l, got, want)
	}
}

// put holds what Put tells against the bytes that are wanted.
func put(t *testing.T, want string, l ...api.Pref) {
	t.Helper()
	if b, is := Put(l...); b != want || !is {
		t.Errorf("Put(%v): %q, %v, not %q, true", l, b, is, want)
	}
}

// noPut holds that Put refuses.
func noPut(t *testing.T, l ...api.Pref) {
	t.Helper()
	if b, is := Put(l...); b != "" || is {
		t.Errorf("Put(%v): %q, %v, not nothing, false", l, b, is)
	}
}

// get holds what Get tells against the settings that are wanted.
func get(t *testing.T, b string, want ...api.Pref) {
	t.Helper()
	if l, is := Get(b); !slices.Equal(l, want) || !is {
		t.Errorf("Get(%q): %v, %v, not %v, true", b, l, is, want)
	}
}

func TestFirstP1001(t *testing.T) {
	if got, want := First(), (Prefs{Table: 128, Many: 6, Window: 100, Frame: 64, List: 600}); got != want {
		t.Errorf("First: %v, not %v", got, want)
	}
}

func TestPutP1001(t *testing.T) {
	put(t, "")
	put(t, "", []api.Pref{}...)
	put(t, "\x00\x00\x00\x00\x00\x00", set(0, 0))
	put(t, "\x00\x04\x00\x00\x00\x64", set(api.PrefWindow, 100))
	put(t, "\x12\x34\x56\x78\x9a\xbc", set(0x1234, 0x56789abc))
	put(t, "\x00\x01\x00\x00\x00\x02\x12\x34\x89\xab\xcd\xef\x00\x01\x00\x00\x00\x00", set(1, 2), set(0x1234, 0x89abcdef), set(1, 0))
}

func TestPutAtTheEdgesP1001(t *testing.T) {
	put(t, "\xff\xff\x00\x00\x00\x00", set(65535, 0))
	put(t, "\x00\x00\xff\xff\xff\xff", set(0, 1<<32-1))
	put(t, "\xff\xff\xff\xff\xff\xff", set(65535, 1<<32-1))
	for _, id := range []int{math.MinInt, -65536, -1, 65536, 1 << 32, math.MaxInt} {
		noPut(t, set(id, 0))
	}
	for _, value := range []int{math.MinInt, -1 << 32, -1, 1 << 32, 1 << 40, math.MaxInt} {
		noPut(t, set(1, value))
	}
	noPut(t, set(-1, -1))
}

func TestPutOfOneThatMayNotBeAmongOthersP1001(t *testing.T) {
	for _, wrong := range []api.Pref{set(-1, 0), set(65536, 0), set(1, -1), set(1, 1<<32)} {
		noPut(t, set(1, 2), set(3, 4), wrong)
		noPut(t, set(1, 2), wrong, set(3, 4))
		noPut(t, wrong, set(1, 2))
	}
}

func TestGetP1001(t *testing.T) {
	get(t, "")
	get(t, "\x00\x00\x00\x00\x00\x00", set(0, 0))
	get(t, "\x12\x34\x56\x78\x9a\xbc", set(0x1234, 0x56789abc))
	get(t, "\xff\xff\xff\xff\xff\xff", set(65535, 1<<32-1))
	get(t, "\x80\x00\x80\x00\x00\x00", set(1<<15, 1<<31))
	get(t, "\x00\x01\x00\x00\x00\x02\x00\x01\x00\x00\x00\x03", set(1, 2), set(1, 3))
}

func TestGetOfNoMultipleOfSixP1001(t *testing.T) {
	for n := range 200 {
		l, is := Get(strings.Repeat("\x01", n))
		switch {
		case is != (n%6 == 0):
			t.Errorf("Get of %d bytes: %v", n, is)
		case is && len(l) != n/6:
			t.Errorf("Get of %d bytes: %d settings", n, len(l))
		case !is && len(l) != 0:
			t.Errorf("Get of %d bytes: %v beside a false", n, l)
		}
	}
}

func TestGetTellsBackWhatPutToldP1001(t *testing.T) {
	r := rand.New(rand.NewSource(10))
	for range 5000 {
		l := make([]api.Pref, r.Intn(9))
		for i := range l {
			l[i] = set(r.Intn(1<<16), r.Intn(1<<32)>>r.Intn(32))
		}
		b, is := Put(l...)
		if len(b) != 6*len(l) || !is {
			t.Fatalf("Put(%v): %q, %v", l, b, is)
		}
		get(t, b, l...)
		back, _ := Get(b)
		put(t, b, back...)
	}
}

func TestAnswersAreNewP1001(t *testing.T) {
	b, _ := Put(set(1, 2), set(3, 4))
	l, _ := Get(b)
	l[0] = set(9, 9)
	_ = append(l[:1], set(8, 8))
	get(t, b, set(1, 2), set(3, 4))
}

func TestNothingWritesIntoWhatIsHandedInP1001(t *testing.T) {
	l := []api.Pref{set(api.PrefMany, 100), set(api.PrefFrame, 1000), set(api.PrefWindow, 1<<32-1), set(7, -1)}
	kept := slices.Clone(l)
	Put(l...)
	Put(l[:3]...)
	Apply(odd(), l...)
	Apply(odd(), l[:2]...)
	if !slices.Equal(l, kept) {
		t.Errorf("the list is %v, not %v", l, kept)
	}
}

func TestApplyOfNoneP1001(t *testing.T) {
	apply(t, fine(First()), First())
	apply(t, fine(odd()), odd())
	apply(t, fine(odd()), odd(), []api.Pref{}...)
	apply(t, fine(Prefs{}), Prefs{})
	raw := Prefs{Table: -1, Many: 1000, Window: math.MaxInt, Frame: 1, List: math.MinInt}
	apply(t, fine(raw), raw)
}

func TestApplyOfTableAndListP1001(t *testing.T) {
	for _, value := range []int{0, 1, api.FirstTable, api.MaxTable, api.MaxTable + 1, api.MaxList, api.MaxList + 1, 1<<31 - 1, 1 << 31, 1<<32 - 1} {
		want := odd()
		want.Table = value
		apply(t, fine(want), odd(), set(api.PrefTable, value))
		want = odd()
		want.List = value
		apply(t, fine(want), odd(), set(api.PrefList, value))
	}
}

func TestApplyOfManyP1001(t *testing.T) {
	for value, many := range map[int]int{0: 0, 1: 1, api.MaxOpen - 1: 5, api.MaxOpen: 6, api.MaxOpen + 1: 6, 100: 6, 1<<32 - 1: 6} {
		want := odd()
		want.Many = many
		apply(t, fine(want), odd(), set(api.PrefMany, value))
	}
}

func TestApplyOfWindowP1001(t *testing.T) {
	for _, value := range []int{0, 1, api.FirstWindow, 65535, 65536, api.MaxWindow - 1, api.MaxWindow} {
		want := odd()
		want.Window = value
		apply(t, fine(want), odd(), set(api.PrefWindow, value))
	}
	for _, value := range []int{api.MaxWindow + 1, api.MaxWindow + 2, 1<<32 - 1, 1 << 32, math.MaxInt} {
		apply(t, flow(odd()), odd(), set(api.PrefWindow, value))
	}
}

func TestApplyOfFrameP1001(t *testing.T) {
	for value, frame := range map[int]int{64: 64, 65: 65, 511: 511, 512: 512, 513: 512, 16384: 512, 16777214: 512, 16777215: 512} {
		want := odd()
		want.Frame = frame
		apply(t, fine(want), odd(), set(api.PrefFrame, value))
	}
	for _, value := range []int{0, 1, 63, 16777216, 1<<24 + 64, 1<<31 - 1, 1<<32 - 1, math.MaxInt} {
		apply(t, proto(odd()), odd(), set(api.PrefFrame, value))
	}
}

func TestApplyOfPushP1001(t *testing.T) {
	apply(t, fine(odd()), odd(), set(api.PrefPush, 0))
	for _, value := range []int{1, 2, 64, 256, 1 << 16, 1<<32 - 1, 1 << 32} {
		apply(t, proto(odd()), odd(), set(api.PrefPush, value))
	}
}

func TestApplyOfOtherKindsP1001(t *testing.T) {
	for _, id := range []int{math.MinInt, -1, 0, 7, 8, 255, 256, 257, 65535, 65536 + 2, 65536 + 4, 1<<32 + 5, math.MaxInt} {
		for _, value := range []int{0, 1, 64, 1 << 31, 1<<32 - 1, math.MaxInt} {
			apply(t, fine(odd()), odd(), set(id, value))
		}
	}
}

// Values below 0 are not promised anything; the words that name no bound below let them be.
func TestApplyOfValuesBelowZeroGoesByTheSameWordsP1001(t *testing.T) {
	for _, value := range []int{-1, -64, -1 << 32, math.MinInt} {
		apply(t, proto(odd()), odd(), set(api.PrefPush, value))
		apply(t, proto(odd()), odd(), set(api.PrefFrame, value))
		apply(t, fine(odd()), odd(), set(7, value))
		apply(t, fine(Prefs{value, value, value, 77, value}), odd(), set(1, value), set(3, value), set(4, value), set(6, value))
	}
}

func TestApplyOneByOneP1001(t *testing.T) {
	all := []api.Pref{set(1, 0), set(2, 0), set(3, 4), set(4, 7), set(5, 100), set(6, 9), set(7, 1)}
	want := fine(Prefs{Table: 0, Many: 4, Window: 7, Frame: 100, List: 9})
	apply(t, want, First(), all...)
	slices.Reverse(all)
	apply(t, want, First(), all...)
	// Of two of one kind the later counts, whichever is greater.
	apply(t, fine(Prefs{Table: 2, Many: 3, Window: 5, Frame: 70, List: 8}), First(),
		set(1, 9), set(3, 100), set(4, api.MaxWindow), set(5, 1000), set(6, 0), set(1, 2), set(3, 3), set(4, 5), set(5, 70), set(6, 8))
	apply(t, fine(Prefs{Table: 9, Many: 6, Window: api.MaxWindow, Frame: 512, List: 800}), First(),
		set(1, 2), set(3, 3), set(4, 5), set(5, 70), set(6, 8), set(1, 9), set(3, 100), set(4, api.MaxWindow), set(5, 1000), set(6, 800))
}

func TestApplyWithAnErrorTellsWhatWasAheadOfAllP1001(t *testing.T) {
	good := []api.Pref{set(1, 0), set(3, 4), set(4, 7), set(5, 100), set(6, 9)}
	for wrong, want := range map[api.Pref]told{
		set(2, 1): proto(odd()), set(5, 63): proto(odd()), set(5, 1<<24): proto(odd()), set(4, 1<<31): flow(odd()),
	} {
		for at := range len(good) + 1 {
			apply(t, want, odd(), slices.Insert(slices.Clone(good), at, wrong)...)
		}
	}
}

func TestApplyTellsTheFirstErrorP1001(t *testing.T) {
	apply(t, flow(odd()), odd(), set(4, 1<<31), set(2, 1))
	apply(t, proto(odd()), odd(), set(2, 1), set(4, 1<<31))
	apply(t, flow(odd()), odd(), set(3, 1), set(4, 1<<32-1), set(5, 1))
	apply(t, proto(odd()), odd(), set(3, 1), set(5, 1), set(4, 1<<32-1))
	// A right one of the same kind behind it mends nothing.
	apply(t, flow(odd()), odd(), set(4, 1<<31), set(4, 1))
	apply(t, proto(odd()), odd(), set(5, 63), set(5, 64))
	apply(t, proto(odd()), odd(), set(2, 1), set(2, 0))
}

func TestMineP1001(t *testing.T) {
	for window, two := range map[int]string{1: "\x00\x01", 2: "\x00\x02", 100: "\x00\x64", 256: "\x01\x00", 65534: "\xff\xfe", 65535: "\xff\xff"} {
		want := "\x00\x02\x00\x00\x00\x00" + "\x00\x04\x00\x00" + two + "\x00\x06\x00\x00\x02\x58"
		if b, is := Mine(window); b != want || !is {
			t.Errorf("Mine(%d): %q, %v, not %q, true", window, b, is, want)
		}
	}
	for _, window := range []int{math.MinInt, -65535, -1, 0, 65536, 65537, api.MaxWindow, 1<<32 + 1, math.MaxInt} {
		if b, is := Mine(window); b != "" || is {
			t.Errorf("Mine(%d): %q, %v, not nothing, false", window, b, is)
		}
	}
}

func TestMineIsToldBackAndAppliedP1001(t *testing.T) {
	for window := 1; window <= 65535; window++ {
		b, _ := Mine(window)
		l, is := Get(b)
		if !slices.Equal(l, []api.Pref{set(2, 0), set(4, window), set(6, 600)}) || !is {
			t.Fatalf("Get of Mine(%d): %v, %v", window, l, is)
		}
		apply(t, fine(Prefs{Table: 11, Many: 2, Window: window, Frame: 77, List: 600}), odd(), l...)
	}
}

// model tells what Apply must, sentence by sentence of the chapter.
func model(p Prefs, l []api.Pref) told {
	now := map[int]int{1: p.Table, 3: p.Many, 4: p.Window, 5: p.Frame, 6: p.List}
	for _, s := range l {
		v := s.Value
		if s.Id == 4 && v > 2147483647 {
			return flow(p)
		}
		if s.Id == 2 && v != 0 || s.Id == 5 && (v < 64 || v > 16777215) {
			return proto(p)
		}
		if s.Id == 3 && v > 6 {
			v = 6
		}
		if s.Id == 5 && v > 512 {
			v = 512
		}
		now[s.Id] = v
	}
	return fine(Prefs{Table: now[1], Many: now[3], Window: now[4], Frame: now[5], List: now[6]})
}

func TestSettingsByTheirWordsP1001(t *testing.T) {
	r := rand.New(rand.NewSource(1001))
	about := []int{0, 1, 6, 64, 100, 512, 600, 1 << 24, 1 << 31, 1 << 32}
	seen := map[api.Errno]int{}
	for range 100000 {
		l := make([]api.Pref, r.Intn(6))
		for i := range l {
			l[i] = set(r.Intn(9), max(0, about[r.Intn(len(about))]+r.Intn(5)-2))
			if r.Intn(3) > 0 && l[i].Id == 2 {
				l[i].Value = 0
			}
		}
		p := Prefs{Table: r.Intn(200), Many: r.Intn(7), Window: r.Intn(200), Frame: 64 + r.Intn(449), List: r.Intn(700)}
		want := model(p, l)
		seen[want.e]++
		apply(t, want, p, l...)
	}
	for _, e := range []api.Errno{api.OK, api.ErrFlow, api.ErrProto} {
		if seen[e] < 1000 {
			t.Errorf("%d: drawn %d times alone", e, seen[e])
		}
	}
}
