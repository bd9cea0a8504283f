package block

import (
	"fmt"
	"math"
	"math/rand"
	"slices"
	"strings"
	"testing"

	"bywash/api"
	"bywash/frame"
	"bywash/rule"
)

// short tells a text's beginning, so that a long one does not fill what a test tells.
func short(s string) string { return s[:min(len(s), 40)] }

// show tells frames so that they can be read.
func show(l []api.Frame) string {
	var s strings.Builder
	for _, f := range l {
		fmt.Fprintf(&s, "{%d %d %d, %d bytes %q}", f.Kind, f.Flags, f.Id, len(f.Body), short(f.Body))
	}
	return s.String()
}

// text tells n bytes of which each differs from its neighbours, so that one that is lost, or twice there, shows.
func text(n int) string {
	b := make([]byte, n)
	for i := range b {
		b[i] = byte(i*7 + i/251)
	}
	return string(b)
}

// anyStream are streams other than 0, a server's among them.
func anyStream() []int { return []int{1, 2, 3, 255, 256, 1 << 24, api.MaxIds - 1, api.MaxIds} }

// cut holds the frames of Cut against those that are wanted.
func cut(t *testing.T, id int, b string, end bool, most int, want ...api.Frame) {
	t.Helper()
	l, is := Cut(id, b, end, most)
	if !slices.Equal(l, want) || !is {
		t.Errorf("Cut(%d, %d bytes, %v, %d): %s, %v, not %s, true", id, len(b), end, most, show(l), is, show(want))
	}
}

// noCut holds that Cut refuses, and that nothing stands beside.
func noCut(t *testing.T, id int, b string, most int) {
	t.Helper()
	for _, end := range []bool{false, true} {
		if l, is := Cut(id, b, end, most); len(l) != 0 || is {
			t.Errorf("Cut(%d, %d bytes, %v, %d): %s, %v, not nothing, false", id, len(b), end, most, show(l), is)
		}
	}
}

// headers, goes tell a Headers and a Continue.
func headers(flags, id int, b string) api.Frame {
	return api.Frame{Kind: api.Headers, Flags: flags, Id: id, Body: b}
}

func goes(flags, id int, b string) api.Frame {
	return api.Frame{Kind: api.Continue, Flags: flags, Id: id, Body: b}
}

func TestCutByIdP1101(t *testing.T) {
	for _, id := range []int{math.MinInt, -api.MaxIds, -1, 0, api.MaxIds + 1, 1<<32 + 1, math.MaxInt} {
		noCut(t, id, "", api.FirstFrame)
		noCut(t, id, "ab", api.FirstFrame)
		noCut(t, id, text(1000), api.MaxFrame)
	}
	for _, id := range anyStream() {
		cut(t, id, "ab", false, api.FirstFrame, headers(api.Whole, id, "ab"))
		long := text(65)
		cut(t, id, long, true, 64, headers(api.End, id, long[:64]), goes(api.Whole, id, long[64:]))
	}
}

func TestCutByMostP1101(t *testing.T) {
	long := text(1100)
	for _, most := range []int{math.MinInt, -64, -1, 0, 1, api.FirstFrame - 1, api.MaxFrame + 1, 1<<24 - 1, 1<<32 + 64, math.MaxInt} {
		noCut(t, 1, "", most)
		noCut(t, 1, "ab", most)
		noCut(t, api.MaxIds, long, most)
		noCut(t, 0, long, most)
	}
	cut(t, 1, long[:70], false, api.FirstFrame, headers(0, 1, long[:64]), goes(api.Whole, 1, long[64:70]))
	cut(t, 1, long[:70], false, api.FirstFrame+1, headers(0, 1, long[:65]), goes(api.Whole, 1, long[65:70]))
	cut(t, 1, long, false, api.MaxFrame-1, headers(0, 1, long[:511]), goes(0, 1, long[511:1022]), goes(api.Whole, 1, long[1022:]))
	cut(t, 1, long, false, api.MaxFrame, headers(0, 1, long[:512]), goes(0, 1, long[512:1024]), goes(api.Whole, 1, long[1024:]))
}

func TestCutOfNoByteP1101(t *testing.T) {
	cut(t, 1, "", false, 64, headers(api.Whole, 1, ""))
	cut(t, 1, "", true, 64, headers(api.Whole|api.End, 1, ""))
	cut(t, api.MaxIds, "", true, api.MaxFrame, headers(api.Whole|api.End, api.MaxIds, ""))
}

func TestCutAboutMostP1101(t *testing.T) {
	for _, most := range []int{api.FirstFrame, 100, 256, api.MaxFrame} {
		b := text(2*most + 1)
		for end, flag := range map[bool]int{false: 0, true: api.End} {
			cut(t, 5, b[:1], end, most, headers(flag|api.Whole, 5, b[:1]))
			cut(t, 5, b[:most-1], end, most, headers(flag|api.Whole, 5, b[:most-1]))
			cut(t, 5, b[:most], end, most, headers(flag|api.Whole, 5, b[:most]))
			cut(t, 5, b[:most+1], end, most, headers(flag, 5, b[:most]), goes(api.Whole, 5, b[most:most+1]))
			cut(t, 5, b[:2*most-1], end, most, headers(flag, 5, b[:most]), goes(api.Whole, 5, b[most:2*most-1]))
			cut(t, 5, b[:2*most], end, most, headers(flag, 5, b[:most]), goes(api.Whole, 5, b[most:2*most]))
			cut(t, 5, b, end, most, headers(flag, 5, b[:most]), goes(0, 5, b[most:2*most]), goes(api.Whole, 5, b[2*most:]))
		}
	}
}

// checkPieces holds each frame of Cut against the chapter's words.
func checkPieces(t *testing.T, l []api.Frame, id int, b string, end bool, most int) {
	t.Helper()
	if want := max(1, (len(b)+most-1)/most); len(l) != want {
		t.Errorf("Cut of %d bytes, most %d: %d frames, not %d", len(b), most, len(l), want)
		return
	}
	all := ""
	for i, f := range l {
		kind, flags := api.Continue, 0
		if i == 0 {
			kind = api.Headers
		}
		if i == 0 && end {
			flags |= api.End
		}
		if i == len(l)-1 {
			flags |= api.Whole
		}
		if f.Kind != kind || f.Flags != flags || f.Id != id || i < len(l)-1 && len(f.Body) != most || len(f.Body) > most {
			t.Errorf("Cut of %d bytes, %v, most %d: frame %d is %d %d %d, %d bytes", len(b), end, most, i, f.Kind, f.Flags, f.Id, len(f.Body))
		}
		all += f.Body
	}
	if all != b {
		t.Errorf("Cut of %d bytes, most %d: %d bytes of others", len(b), most, len(all))
	}
}

func TestCutAndTakeGoRoundP1101(t *testing.T) {
	r := rand.New(rand.NewSource(11))
	for range 2000 {
		most := api.FirstFrame + r.Intn(api.MaxFrame-api.FirstFrame+1)
		id, b, end := 1+r.Intn(api.MaxIds), text(r.Intn(5*most)), r.Intn(2) == 0
		l, is := Cut(id, b, end, most)
		if !is {
			t.Fatalf("Cut(%d, %d bytes, %v, %d): false", id, len(b), end, most)
		}
		checkPieces(t, l, id, b, end, most)
		x := made(t, max(1, len(b)))
		for _, f := range l[:len(l)-1] {
			checkNone(t, x, f, api.OK, id)
		}
		checkBlock(t, x, l[len(l)-1], Block{id, b, end})
	}
}

func TestCutAnswersAListOfItsOwnP1101(t *testing.T) {
	b := text(130)
	l, _ := Cut(3, b, true, 64)
	for i := range l {
		l[i] = api.Frame{Kind: 99}
	}
	_ = append(l, api.Frame{Kind: 98})
	cut(t, 3, b, true, 64, headers(api.End, 3, b[:64]), goes(0, 3, b[64:128]), goes(api.Whole, 3, b[128:]))
}

// made tells a Blocks that must be there.
func made(t *testing.T, most int) *Blocks {
	t.Helper()
	x := New(most)
	if x == nil {
		t.Fatalf("New(%d): nil", most)
	}
	return x
}

// checkOpen holds what Open tells against what is wanted.
func checkOpen(t *testing.T, x *Blocks, want int) {
	t.Helper()
	if got := x.Open(); got != want {
		t.Errorf("Open: %d, not %d", got, want)
	}
	if got := x.Open(); got != want {
		t.Errorf("Open, again: %d, not %d", got, want)
	}
}

// checkBlock holds that a frame ends a block, and that none is open then.
func checkBlock(t *testing.T, x *Blocks, f api.Frame, want Block) {
	t.Helper()
	got, is, e := x.Take(f)
	if got != want || !is || e != api.OK {
		t.Errorf("Take(%d %d %d, %q): %d %q %v, %v, %d, not %d %q %v, true, 0", f.Kind, f.Flags, f.Id, short(f.Body), got.Id, short(got.Bytes), got.End, is, e, want.Id, short(want.Bytes), want.End)
	}
	checkOpen(t, x, 0)
}

// checkNone holds that a frame ends no block, why, that nothing stands beside it, and which one is open then.
func checkNone(t *testing.T, x *Blocks, f api.Frame, want api.Errno, open int) {
	t.Helper()
	got, is, e := x.Take(f)
	if got != (Block{}) || is || e != want {
		t.Errorf("Take(%d %d %d, %q): %d %q %v, %v, %d, not a zero Block, false, %d", f.Kind, f.Flags, f.Id, short(f.Body), got.Id, short(got.Bytes), got.End, is, e, want)
	}
	checkOpen(t, x, open)
}

// checkFresh holds that nothing of what came is left: a Continue is of no block, the next block has all of most and its own bytes alone.
func checkFresh(t *testing.T, x *Blocks, most int) {
	t.Helper()
	checkOpen(t, x, 0)
	checkNone(t, x, goes(api.Whole, 3, ""), api.ErrProto, 0)
	b := text(most)
	checkBlock(t, x, headers(api.Whole, 21, b), Block{21, b, false})
	checkNone(t, x, headers(0, 21, b), api.OK, 21)
	checkBlock(t, x, goes(api.Whole, 21, ""), Block{21, b, false})
	checkNone(t, x, headers(api.Whole, 21, b+"x"), api.ErrSize, 0)
}

func TestNewByMostP1102(t *testing.T) {
	for most, want := range map[int]bool{
		math.MinInt: false, -1 << 32: false, -2: false, -1: false, 0: false,
		1: true, 2: true, api.FirstFrame: true, api.MaxList: true, 1 << 24: true, 1<<31 - 1: true, math.MaxInt: true,
	} {
		x := New(most)
		if (x != nil) != want {
			t.Errorf("New(%d): %v, not %v", most, x != nil, want)
		}
		if x != nil {
			checkOpen(t, x, 0)
			checkBlock(t, x, headers(api.Whole, 1, "a"), Block{1, "a", false})
		}
	}
}

func TestHeadersThatAreWholeP1102(t *testing.T) {
	x := made(t, 10)
	for _, id := range anyStream() {
		checkBlock(t, x, headers(api.Whole, id, "ab"), Block{id, "ab", false})
		checkBlock(t, x, headers(api.Whole|api.End, id, "ab\x00"), Block{id, "ab\x00", true})
		checkBlock(t, x, headers(api.Whole, id, ""), Block{id, "", false})
		checkBlock(t, x, headers(api.Whole|api.End, id, ""), Block{id, "", true})
	}
}

func TestHeadersArePaddedAndWeighedP1102(t *testing.T) {
	for _, c := range []struct {
		flags      int
		body, want string
	}{
		{api.Padded, "\x00", ""}, {api.Padded, "\x00ab", "ab"}, {api.Padded, "\x01ab", "a"}, {api.Padded, "\x02ab", ""},
		{api.Weighed, "12345", ""}, {api.Weighed, "12345z", "z"},
		{api.Padded | api.Weighed, "\x0012345", ""}, {api.Padded | api.Weighed, "\x0312345abpad", "ab"},
		{0, "\x01ab", "\x01ab"}, {2 | 16 | 64 | 128, "\x0112345", "\x0112345"},
	} {
		for end, flag := range map[bool]int{false: 0, true: api.End} {
			x := made(t, 10)
			checkBlock(t, x, headers(c.flags|flag|api.Whole, 3, c.body), Block{3, c.want, end})
			checkNone(t, x, headers(c.flags|flag, 3, c.body), api.OK, 3)
			checkNone(t, x, goes(0, 3, "+"), api.OK, 3)
			checkBlock(t, x, goes(api.Whole, 3, "-"), Block{3, c.want + "+-", end})
		}
	}
}

func TestHeadersThatGoOnP1102(t *testing.T) {
	x := made(t, 10)
	for _, id := range anyStream() {
		checkNone(t, x, headers(0, id, "ab"), api.OK, id)
		checkNone(t, x, goes(0, id, "cd"), api.OK, id)
		checkNone(t, x, goes(0, id, ""), api.OK, id)
		checkBlock(t, x, goes(api.Whole, id, "efgh"), Block{id, "abcdefgh", false})
	}
	checkNone(t, x, headers(api.End, 3, ""), api.OK, 3)
	checkNone(t, x, goes(0, 3, "x"), api.OK, 3)
	checkBlock(t, x, goes(api.Whole, 3, ""), Block{3, "x", true})
	checkFresh(t, x, 10)
}

func TestFlagsOfAContinueP1102(t *testing.T) {
	x := made(t, 10)
	for flags := range 256 {
		for end, flag := range map[bool]int{false: 0, true: api.End} {
			checkNone(t, x, headers(flag, 3, "a"), api.OK, 3)
			if flags&api.Whole != 0 {
				checkBlock(t, x, goes(flags, 3, "\x00234567"), Block{3, "a\x00234567", end})
				continue
			}
			checkNone(t, x, goes(flags, 3, "\x00234567"), api.OK, 3)
			checkBlock(t, x, goes(api.Whole, 3, "b"), Block{3, "a\x00234567b", end})
		}
	}
}

func TestEndIsOfOneBlockAloneP1102(t *testing.T) {
	x := made(t, 10)
	checkNone(t, x, headers(api.End, 3, "a"), api.OK, 3)
	checkNone(t, x, headers(0, 3, "a"), api.ErrProto, 0)
	checkNone(t, x, headers(0, 5, "b"), api.OK, 5)
	checkBlock(t, x, goes(api.Whole, 5, "c"), Block{5, "bc", false})
}

func TestAContinueOfNoBlockP1102(t *testing.T) {
	x := made(t, 10)
	for _, flags := range []int{0, api.Whole, api.End, 255} {
		for _, body := range []string{"", "a", text(10), text(11), text(1000)} {
			checkNone(t, x, goes(flags, 3, body), api.ErrProto, 0)
			checkBlock(t, x, headers(api.Whole, 3, "ab"), Block{3, "ab", false})
			checkNone(t, x, goes(flags, 3, body), api.ErrProto, 0)
		}
	}
	checkFresh(t, x, 10)
}

// between tells right frames of which none goes on with a block of stream 3.
func between() []api.Frame {
	return []api.Frame{
		goes(0, 1, "a"), goes(api.Whole, 5, "a"), goes(api.Whole, 259, ""), goes(0, 3+1<<16, ""), goes(0, api.MaxIds, ""), goes(0, 2, text(100)),
		headers(0, 3, "a"), headers(api.Whole, 3, "a"), headers(api.Whole|api.End, 3, ""), headers(0, 5, "a"), headers(api.Whole, 5, text(100)),
		{Kind: api.Data, Id: 3}, {Kind: api.Data, Id: 3, Flags: api.Whole | api.End, Body: "a"}, {Kind: api.Data, Id: 5, Body: text(100)},
		{Kind: api.Priority, Id: 3, Body: "12345"}, {Kind: api.Reset, Id: 3, Body: "1234"}, {Kind: api.Reset, Id: 5, Body: "1234"},
		{Kind: api.Settings}, {Kind: api.Settings, Flags: api.Ack}, {Kind: api.Settings, Body: "123456"},
		{Kind: api.Ping, Body: "12345678"}, {Kind: api.Ping, Flags: api.Ack, Body: "12345678"}, {Kind: api.Away, Body: "12345678"},
		{Kind: api.Update, Body: "1234"}, {Kind: api.Update, Id: 3, Body: "1234"},
		{Kind: 10}, {Kind: 10, Id: 3}, {Kind: 77, Flags: api.Whole, Id: 3, Body: "a"}, {Kind: 255, Flags: 255, Id: 5, Body: text(100)},
	}
}

func TestFramesBetweenP1102(t *testing.T) {
	for _, f := range between() {
		x := made(t, 10)
		checkNone(t, x, headers(api.End, 3, "ab"), api.OK, 3)
		checkNone(t, x, f, api.ErrProto, 0)
		checkFresh(t, x, 10)
		checkNone(t, x, headers(0, 3, "ab"), api.OK, 3)
		checkNone(t, x, goes(0, 3, "cd"), api.OK, 3)
		checkNone(t, x, f, api.ErrProto, 0)
		checkNone(t, x, goes(api.Whole, 3, "ef"), api.ErrProto, 0)
		checkFresh(t, x, 10)
	}
}

func TestOtherKindsOfNoBlockP1102(t *testing.T) {
	x := made(t, 10)
	for _, f := range between() {
		if f.Kind != api.Headers && f.Kind != api.Continue {
			checkNone(t, x, f, api.OK, 0)
			f.Flags |= api.Whole
			checkNone(t, x, f, api.OK, 0)
			checkBlock(t, x, headers(api.Whole, 3, "ab"), Block{3, "ab", false})
		}
	}
	for kind := api.Continue + 1; kind <= 255; kind++ {
		for _, id := range []int{0, 1, 2, api.MaxIds} {
			checkNone(t, x, api.Frame{Kind: kind, Flags: 255, Id: id, Body: text(20)}, api.OK, 0)
		}
	}
	checkFresh(t, x, 10)
}

func TestJustMostInOneFrameP1102(t *testing.T) {
	for _, most := range []int{1, 2, 10, api.FirstFrame, api.MaxFrame, api.MaxList, 5000} {
		x, b := made(t, most), text(most+1)
		checkBlock(t, x, headers(api.Whole, 3, b[:most]), Block{3, b[:most], false})
		checkNone(t, x, headers(api.Whole, 3, b), api.ErrSize, 0)
		checkNone(t, x, headers(0, 3, b), api.ErrSize, 0)
		checkNone(t, x, headers(0, 3, text(10*most)), api.ErrSize, 0)
		checkFresh(t, x, most)
	}
}

func TestJustMostInSeveralFramesP1102(t *testing.T) {
	for _, most := range []int{2, 10, api.FirstFrame, api.MaxFrame, api.MaxList} {
		x, b := made(t, most), text(most+1)
		checkNone(t, x, headers(0, 3, b[:most/2]), api.OK, 3)
		checkNone(t, x, goes(0, 3, b[most/2:most-1]), api.OK, 3)
		checkBlock(t, x, goes(api.Whole, 3, b[most-1:most]), Block{3, b[:most], false})
		for _, flags := range []int{0, api.Whole} {
			checkNone(t, x, headers(0, 3, b[:most/2]), api.OK, 3)
			checkNone(t, x, goes(0, 3, b[most/2:most]), api.OK, 3)
			checkNone(t, x, goes(0, 3, ""), api.OK, 3)
			checkNone(t, x, goes(flags, 3, "x"), api.ErrSize, 0)
			checkNone(t, x, goes(api.Whole, 3, ""), api.ErrProto, 0)
		}
		checkNone(t, x, headers(0, 3, ""), api.OK, 3)
		checkNone(t, x, goes(0, 3, b), api.ErrSize, 0)
		checkFresh(t, x, most)
	}
}

func TestWhatIsStrippedDoesNotCountP1102(t *testing.T) {
	x := made(t, 3)
	pad := strings.Repeat("\x00", 200)
	checkBlock(t, x, headers(api.Padded|api.Whole, 3, "\xc8abc"+pad), Block{3, "abc", false})
	checkNone(t, x, headers(api.Padded|api.Whole, 3, "\xc8abcd"+pad), api.ErrSize, 0)
	checkBlock(t, x, headers(api.Weighed|api.Whole, 3, "12345abc"), Block{3, "abc", false})
	checkNone(t, x, headers(api.Weighed|api.Whole, 3, "12345abcd"), api.ErrSize, 0)
	checkNone(t, x, headers(api.Padded|api.Weighed, 3, "\xc812345a"+pad), api.OK, 3)
	checkBlock(t, x, goes(api.Whole, 3, "bc"), Block{3, "abc", false})
	checkNone(t, x, headers(api.Padded, 3, "\x01\x00\x00"), api.OK, 3)
	checkNone(t, x, goes(api.Padded|api.Whole, 3, "\x01a\x00"), api.ErrSize, 0)
}

// refused are frames that chapter 9 refuses.
func refused() []api.Frame {
	return []api.Frame{
		headers(api.Whole, 0, "a"), headers(0, -1, ""), headers(0, api.MaxIds+1, ""), headers(256, 3, ""), headers(-1, 3, ""), headers(api.Whole, 0, text(100)),
		headers(api.Padded, 3, ""), headers(api.Padded|api.Whole, 3, "\x01"), headers(api.Padded|api.Whole, 3, "\xffab"),
		headers(api.Weighed, 3, "1234"), headers(api.Weighed|api.Padded|api.Whole, 3, "\x0212345a"),
		headers(0, 3, strings.Repeat("a", 1<<24)),
		goes(0, 0, ""), goes(api.Whole, -1, "a"), goes(api.Whole, api.MaxIds+1, "a"), goes(256|api.Whole, 3, "a"), goes(api.Whole, 3, strings.Repeat("a", 1<<24)),
		{Kind: -1, Id: 3}, {Kind: 256, Id: 3}, {Kind: 256 + api.Continue, Id: 3},
		{Kind: api.Data}, {Kind: api.Data, Flags: api.Padded, Id: 3}, {Kind: api.Priority, Id: 3, Body: "1234"}, {Kind: api.Reset, Id: 3},
		{Kind: api.Promise, Id: 3, Body: "1234"}, {Kind: api.Promise, Flags: api.Whole}, {Kind: api.Settings, Id: 3}, {Kind: api.Settings, Flags: api.Ack, Body: "123456"},
		{Kind: api.Ping, Body: "1234567"}, {Kind: api.Away, Body: "1234567"}, {Kind: api.Update, Id: 3, Body: "123"},
	}
}

func TestWhatRuleRefusesP1102(t *testing.T) {
	for _, f := range refused() {
		x := made(t, 10)
		checkNone(t, x, f, api.ErrArg, 0)
		checkNone(t, x, headers(api.End, 3, "ab"), api.OK, 3)
		checkNone(t, x, f, api.ErrArg, 0)
		checkNone(t, x, goes(api.Whole, 3, "c"), api.ErrProto, 0)
		checkNone(t, x, headers(0, 3, "ab"), api.OK, 3)
		checkNone(t, x, goes(0, 3, "cd"), api.OK, 3)
		checkNone(t, x, f, api.ErrArg, 0)
		checkNone(t, x, f, api.ErrArg, 0)
		checkFresh(t, x, 10)
	}
}

func TestANilAndAZeroOneP1102(t *testing.T) {
	var none *Blocks
	for _, x := range []*Blocks{none, {}, new(Blocks)} {
		for _, f := range slices.Concat(between(), refused(), []api.Frame{{}, headers(api.Whole, 3, "ab"), headers(0, 3, "ab"), goes(api.Whole, 3, "cd"), headers(0, 3, text(1000))}) {
			checkNone(t, x, f, api.ErrState, 0)
		}
	}
}

func TestBlocksAreEachOfItsOwnP1102(t *testing.T) {
	x, y := made(t, 4), made(t, 6)
	checkNone(t, x, headers(api.End, 3, "ab"), api.OK, 3)
	checkNone(t, y, headers(0, 5, "123"), api.OK, 5)
	checkNone(t, y, goes(0, 3, ""), api.ErrProto, 0)
	checkBlock(t, x, goes(api.Whole, 3, "cd"), Block{3, "abcd", true})
	checkBlock(t, y, headers(api.Whole, 5, "123456"), Block{5, "123456", false})
}

func TestABlockStaysP1102(t *testing.T) {
	x := made(t, 10)
	var got []Block
	for _, b := range []string{"abc", "xyz", "123"} {
		checkNone(t, x, headers(0, 3, b), api.OK, 3)
		y, _, _ := x.Take(goes(api.Whole, 3, b))
		got = append(got, y)
	}
	if want := []Block{{3, "abcabc", false}, {3, "xyzxyz", false}, {3, "123123", false}}; !slices.Equal(got, want) {
		t.Errorf("Blocks behind later ones: %v, not %v", got, want)
	}
}

func TestABlockOfManyFramesP1102(t *testing.T) {
	const n = 200000
	x := made(t, n)
	checkNone(t, x, headers(0, 3, ""), api.OK, 3)
	for range n {
		if _, is, e := x.Take(goes(0, 3, "a")); is || e != api.OK {
			t.Fatalf("Take of one byte: %v, %d", is, e)
		}
	}
	checkBlock(t, x, goes(api.Whole, 3, ""), Block{3, strings.Repeat("a", n), false})
}

// told is what Take and Open tell.
type told struct {
	b    Block
	is   bool
	e    api.Errno
	open int
}

func (x told) String() string {
	return fmt.Sprintf("%d %q %v, %v, %d, open %d", x.b.Id, x.b.Bytes, x.b.End, x.is, x.e, x.open)
}

// model tells what Take and Open must, sentence by sentence of the chapter, of the frames so far that are a block's.
func model(most int, open []api.Frame, f api.Frame) (told, []api.Frame) {
	no := func(e api.Errno) (told, []api.Frame) { return told{e: e}, nil }
	if _, e := rule.Check(f); e != api.OK {
		return no(api.ErrArg)
	}
	if len(open) > 0 && (f.Kind != 9 || f.Id != open[0].Id) || len(open) == 0 && f.Kind == 9 {
		return no(api.ErrProto)
	}
	if f.Kind != 1 && f.Kind != 9 {
		return no(api.OK)
	}
	open = append(slices.Clone(open), f)
	all := ""
	for _, p := range open {
		b, _, _ := frame.Strip(p)
		all += b
	}
	switch {
	case len(all) > most:
		return no(api.ErrSize)
	case f.Flags&4 == 0:
		return told{open: f.Id}, open
	}
	return told{b: Block{f.Id, all, open[0].Flags&1 == 1}, is: true}, nil
}

// drawn tells a frame that now and then goes on with a block, and now and then is none.
func drawn(r *rand.Rand) api.Frame {
	f := api.Frame{Kind: api.Continue, Flags: r.Intn(8) & r.Intn(256), Id: 3, Body: text(r.Intn(12))}
	switch r.Intn(12) {
	case 0, 1, 2, 3:
		f.Kind = api.Headers
		f.Flags |= r.Intn(256) & (api.Padded | api.Weighed)
		f.Body = string([]byte{byte(r.Intn(4))}) + f.Body
	case 4:
		f.Kind = r.Intn(13)
	}
	switch r.Intn(40) {
	case 0:
		f.Id = r.Intn(6)
	case 1:
		f.Flags = r.Intn(300) - 20
	case 2:
		f.Kind = r.Intn(300) - 20
	}
	return f
}

func TestFramesByTheirWordsP1102(t *testing.T) {
	r := rand.New(rand.NewSource(1102))
	errors, blocks, ends, several := map[api.Errno]int{}, 0, 0, 0
	for range 400 {
		most := 1 + r.Intn(60)
		x := made(t, most)
		var open []api.Frame
		for range 500 {
			f := drawn(r)
			behind := len(open)
			var want told
			want, open = model(most, open, f)
			b, is, e := x.Take(f)
			if got := (told{b, is, e, x.Open()}); got != want {
				t.Fatalf("Take(%d %d %d, %q) behind %d frames, most %d: %v, not %v", f.Kind, f.Flags, f.Id, f.Body, behind, most, got, want)
			}
			errors[e]++
			if is {
				blocks++
			}
			if is && b.End {
				ends++
			}
			if is && behind > 1 {
				several++
			}
		}
	}
	for _, e := range []api.Errno{api.OK, api.ErrArg, api.ErrProto, api.ErrSize} {
		if errors[e] < 1000 {
			t.Errorf("error %d: drawn %d times alone", e, errors[e])
		}
	}
	if blocks < 1000 || ends < 1000 || several < 1000 {
		t.Errorf("drawn: %d blocks, %d with End, %d of three frames and more", blocks, ends, several)
	}
}
