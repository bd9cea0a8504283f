package rule

import (
	"math"
	"math/rand"
	"slices"
	"strings"
	"testing"

	"bywash/api"
	"bywash/frame"
)

// told is what Check tells.
type told struct {
	code int
	e    api.Errno
}

var (
	fine  = told{api.CodeNone, api.OK}
	arg   = told{api.CodeProtocol, api.ErrArg}
	proto = told{api.CodeProtocol, api.ErrProto}
	size  = told{api.CodeSize, api.ErrSize}
)

// check holds what Check tells of a frame against what is wanted.
func check(t *testing.T, f api.Frame, want told) {
	t.Helper()
	code, e := Check(f)
	if got := (told{code, e}); got != want {
		t.Errorf("Check(%d %d %d, %d bytes %q): %v, not %v", f.Kind, f.Flags, f.Id, len(f.Body), f.Body[:min(len(f.Body), 20)], got, want)
	}
}

// zeros tells a frame whose body has n bytes that pad nothing.
func zeros(kind, flags, id, n int) api.Frame {
	return api.Frame{Kind: kind, Flags: flags, Id: id, Body: strings.Repeat("\x00", n)}
}

// anyFlags are flags that turn nothing but what a kind says they do.
func anyFlags() []int { return []int{0, 1, 2, 4, 8, 16, 32, 64, 128, 40, 255} }

// anyStream are streams other than 0, a server's among them.
func anyStream() []int { return []int{1, 2, 3, 255, 256, 1 << 24, api.MaxIds - 1, api.MaxIds} }

// right tells a body's length that a kind may have without flags.
func right(kind int) int { return []int{0, 0, 5, 4, 0, 0, 8, 8, 4, 0}[kind] }

func TestCheckOfWhatIsNoFrameP901(t *testing.T) {
	for kind := range 12 {
		for _, id := range []int{0, 1} {
			for _, wrong := range []int{math.MinInt, -256, -1, 256, 257, math.MaxInt} {
				check(t, zeros(kind, wrong, id, 8), arg)
				check(t, zeros(wrong, 0, id, kind), arg)
			}
		}
		for _, wrong := range []int{math.MinInt, -1, api.MaxIds + 1, 1 << 32, math.MaxInt} {
			check(t, zeros(kind, 0, wrong, 8), arg)
		}
	}
	check(t, zeros(-1, -1, -1, 0), arg)
}

func TestCheckOfTheEdgesOfAFrameP901(t *testing.T) {
	check(t, zeros(api.Data, 0, 1, 0), fine)
	check(t, zeros(255, 0, 0, 0), fine)
	check(t, zeros(api.Data, 255, 1, 1), fine)
	check(t, zeros(255, 255, api.MaxIds, 0), fine)
	check(t, zeros(api.Data, 0, api.MaxIds, 0), fine)
	most := zeros(api.Data, 0, 1, 1<<24)
	check(t, most, arg)
	most.Body = most.Body[1:]
	check(t, most, fine)
}

func TestCheckOfABodyThatIsNoneTellsArgFirstP901(t *testing.T) {
	body := strings.Repeat("\xff", 1<<24)
	for kind := range 12 {
		for _, id := range []int{0, 1} {
			check(t, api.Frame{Kind: kind, Flags: 255, Id: id, Body: body}, arg)
		}
	}
}

func TestCheckOfAPromiseP901(t *testing.T) {
	for _, id := range append(anyStream(), 0) {
		for _, flags := range anyFlags() {
			for _, n := range []int{0, 1, 3, 4, 5, 8, 64} {
				check(t, zeros(api.Promise, flags, id, n), proto)
			}
		}
	}
}

func TestCheckOfStreamsP901(t *testing.T) {
	for _, kind := range []int{api.Data, api.Headers, api.Priority, api.Reset, api.Continue} {
		check(t, zeros(kind, 0, 0, right(kind)), proto)
		for _, id := range anyStream() {
			check(t, zeros(kind, 0, id, right(kind)), fine)
		}
	}
	for _, kind := range []int{api.Settings, api.Ping, api.Away} {
		check(t, zeros(kind, 0, 0, right(kind)), fine)
		for _, id := range anyStream() {
			check(t, zeros(kind, 0, id, right(kind)), proto)
		}
	}
	for _, id := range append(anyStream(), 0) {
		check(t, zeros(api.Update, 0, id, 4), fine)
	}
}

// checkLengths holds which lengths of a body may be, with whatever flags.
func checkLengths(t *testing.T, kind, id int, may func(int) bool) {
	t.Helper()
	for n := range 70 {
		want := size
		if may(n) {
			want = fine
		}
		for _, flags := range anyFlags() {
			check(t, zeros(kind, flags, id, n), want)
		}
	}
}

// just tells whether a length is that one.
func just(want int) func(int) bool { return func(n int) bool { return n == want } }

func TestCheckOfLengthsP901(t *testing.T) {
	checkLengths(t, api.Priority, 1, just(5))
	checkLengths(t, api.Reset, 1, just(4))
	checkLengths(t, api.Update, 0, just(4))
	checkLengths(t, api.Update, 7, just(4))
	checkLengths(t, api.Ping, 0, just(8))
	checkLengths(t, api.Away, 0, func(n int) bool { return n >= 8 })
	checkLengths(t, api.Continue, 1, func(int) bool { return true })
}

func TestCheckOfTheLengthsThatAreNamedP901(t *testing.T) {
	for _, c := range []struct {
		kind, id, n int
		want        told
	}{
		{api.Priority, 1, 4, size}, {api.Priority, 1, 5, fine}, {api.Priority, 1, 6, size},
		{api.Reset, 1, 3, size}, {api.Reset, 1, 4, fine}, {api.Reset, 1, 5, size},
		{api.Update, 1, 3, size}, {api.Update, 1, 4, fine}, {api.Update, 1, 5, size},
		{api.Update, 0, 3, size}, {api.Update, 0, 4, fine}, {api.Update, 0, 5, size},
		{api.Ping, 0, 7, size}, {api.Ping, 0, 8, fine}, {api.Ping, 0, 9, size},
		{api.Away, 0, 7, size}, {api.Away, 0, 8, fine}, {api.Away, 0, 9, fine},
		{api.Settings, 0, 0, fine}, {api.Settings, 0, 5, size}, {api.Settings, 0, 6, fine}, {api.Settings, 0, 7, size}, {api.Settings, 0, 12, fine},
	} {
		check(t, zeros(c.kind, 0, c.id, c.n), c.want)
	}
}

func TestCheckOfSettingsP901(t *testing.T) {
	for flags := range 256 {
		ack := flags%2 == 1
		for _, n := range []int{0, 1, 2, 3, 4, 5, 6, 7, 11, 12, 13, 18, 60, 64, 66} {
			want := size
			if n == 0 || n%6 == 0 && !ack {
				want = fine
			}
			check(t, zeros(api.Settings, flags, 0, n), want)
		}
	}
}

func TestCheckOfAPingWithAckP901(t *testing.T) {
	check(t, zeros(api.Ping, api.Ack, 0, 7), size)
	check(t, zeros(api.Ping, api.Ack, 0, 8), fine)
	check(t, zeros(api.Ping, api.Ack, 0, 9), size)
	check(t, zeros(api.Ping, api.Ack, 0, 0), size)
}

func TestCheckOfPaddingP901(t *testing.T) {
	for _, kind := range []int{api.Data, api.Headers} {
		for _, flags := range []int{api.Padded, api.Padded | api.End, api.Padded | api.Whole, 255 &^ api.Weighed} {
			for body, want := range map[string]told{
				"": proto, "\x00": fine, "\x01": proto, "\x00a": fine, "\x01a": fine, "\x02a": proto, "\x03abc": fine, "\x04abc": proto, "\xffabc": proto,
				"\xff" + strings.Repeat("a", 254): proto, "\xff" + strings.Repeat("a", 255): fine, "\xff" + strings.Repeat("a", 256): fine,
			} {
				check(t, api.Frame{Kind: kind, Flags: flags, Id: 1, Body: body}, want)
			}
		}
		for _, body := range []string{"", "\x01", "\x02a", "\xffabc"} {
			check(t, api.Frame{Kind: kind, Flags: 255 &^ api.Padded &^ api.Weighed, Id: 1, Body: body}, fine)
		}
	}
}

func TestCheckOfWeighedHeadersP901(t *testing.T) {
	for _, flags := range []int{api.Weighed, api.Weighed | api.End | api.Whole, 255 &^ api.Padded} {
		for body, want := range map[string]told{"": size, "1": size, "1234": size, "12345": fine, "123456": fine} {
			check(t, api.Frame{Kind: api.Headers, Flags: flags, Id: 1, Body: body}, want)
			check(t, api.Frame{Kind: api.Data, Flags: flags, Id: 1, Body: body}, fine)
		}
	}
}

func TestCheckOfPaddedAndWeighedHeadersP901(t *testing.T) {
	for _, flags := range []int{api.Padded | api.Weighed, api.Padded | api.Weighed | api.Whole, 255} {
		for body, want := range map[string]told{
			"": proto, "\x00": size, "\x01": proto, "\x001234": size, "\x0012345": fine, "\x0112345": size, "\x01123456": fine,
			"\x0212345ab": fine, "\x0312345ab": size, "\x0712345ab": size, "\x0812345ab": proto, "\xff12345ab": proto,
		} {
			check(t, api.Frame{Kind: api.Headers, Flags: flags, Id: 1, Body: body}, want)
		}
	}
}

func TestPaddedAndWeighedDoNotMatterElsewhereP901(t *testing.T) {
	for _, body := range []string{"", "\xff", "\xff234"} {
		check(t, api.Frame{Kind: api.Continue, Flags: api.Padded | api.Weighed, Id: 1, Body: body}, fine)
	}
	check(t, api.Frame{Kind: api.Priority, Flags: api.Padded | api.Weighed, Id: 1, Body: "\xff2345"}, fine)
	check(t, api.Frame{Kind: api.Ping, Flags: api.Padded | api.Weighed, Body: "\xff2345678"}, fine)
	check(t, api.Frame{Kind: api.Update, Flags: api.Padded | api.Weighed, Body: "\xff234"}, fine)
}

func TestTheFirstOfTwoFaultsIsToldP901(t *testing.T) {
	for _, kind := range []int{api.Priority, api.Reset} {
		check(t, zeros(kind, 0, 0, right(kind)+1), proto)
		check(t, zeros(kind, 0, 0, 0), proto)
	}
	check(t, zeros(api.Settings, 0, 1, 7), proto)
	check(t, zeros(api.Settings, api.Ack, 1, 6), proto)
	check(t, zeros(api.Ping, 0, 1, 7), proto)
	check(t, zeros(api.Away, 0, 1, 7), proto)
	// A stream is told ahead of Strip's ErrSize, and of its ErrProto.
	check(t, zeros(api.Headers, api.Weighed, 0, 4), proto)
	check(t, zeros(api.Headers, api.Padded|api.Weighed, 0, 5), proto)
	check(t, zeros(api.Data, api.Padded, 0, 0), proto)
	// A wrong number is told ahead of all.
	check(t, zeros(api.Promise, 256, 1, 0), arg)
	check(t, zeros(api.Ping, -1, 1, 7), arg)
	check(t, zeros(api.Priority, 256, 0, 4), arg)
	check(t, zeros(api.Settings, api.Ack, -1, 6), arg)
	check(t, zeros(api.Data, 256|api.Padded, 0, 0), arg)
	check(t, zeros(api.Update, 0, api.MaxIds+1, 3), arg)
}

func TestCheckOfOtherKindsP901(t *testing.T) {
	for kind := api.Continue + 1; kind <= 255; kind++ {
		for _, id := range append(anyStream(), 0) {
			for _, flags := range anyFlags() {
				for _, body := range []string{"", "\xff", "1234", "12345", "12345678", "\xff2345678\x00"} {
					check(t, api.Frame{Kind: kind, Flags: flags, Id: id, Body: body}, fine)
				}
			}
		}
	}
}

func TestKnownAndStreamedP901(t *testing.T) {
	streamed := []int{0, 1, 2, 3, 9}
	for kind := -300; kind <= 300; kind++ {
		if got, want := Known(kind), kind >= 0 && kind <= 9; got != want {
			t.Errorf("Known(%d): %v, not %v", kind, got, want)
		}
		if got, want := Streamed(kind), slices.Contains(streamed, kind); got != want {
			t.Errorf("Streamed(%d): %v, not %v", kind, got, want)
		}
	}
	for _, kind := range []int{math.MinInt, -1 << 32, 1 << 32, 1<<32 + 1, math.MaxInt} {
		if Known(kind) || Streamed(kind) {
			t.Errorf("Known, Streamed(%d): %v, %v, not false", kind, Known(kind), Streamed(kind))
		}
	}
}

func TestErrorP901(t *testing.T) {
	named := map[int]api.Errno{0: api.OK, 7: api.ErrRefused, 8: api.ErrCancel}
	codes := []int{math.MinInt, -1 << 32, 1<<31 - 1, 1<<32 - 1, 1 << 32, 1<<32 + 7, 1<<32 + 8, math.MaxInt}
	for code := -300; code <= 300; code++ {
		codes = append(codes, code)
	}
	for _, code := range codes {
		want, is := named[code]
		if !is {
			want = api.ErrReset
		}
		if got := Error(code); got != want {
			t.Errorf("Error(%d): %d, not %d", code, got, want)
		}
	}
}

// model tells what Check must, sentence by sentence of the chapter.
func model(f api.Frame) told {
	n, ack := len(f.Body), f.Flags%2 == 1
	wrongStream := map[int]bool{0: f.Id == 0, 1: f.Id == 0, 2: f.Id == 0, 3: f.Id == 0, 4: f.Id > 0, 5: true, 6: f.Id > 0, 7: f.Id > 0, 9: f.Id == 0}
	wrongLength := map[int]bool{2: n != 5, 3: n != 4, 4: n%6 > 0 || ack && n > 0, 6: n != 8, 7: n < 8, 8: n != 4}
	_, _, e := frame.Strip(f)
	switch {
	case !frame.Right(f):
		return arg
	case wrongStream[f.Kind]:
		return proto
	case wrongLength[f.Kind]:
		return size
	case e == api.ErrSize:
		return size
	case e != api.OK:
		return told{api.CodeProtocol, e}
	}
	return fine
}

// drawn tells a frame that is now and then none, with lengths about those that kinds ask for.
func drawn(r *rand.Rand) api.Frame {
	f := api.Frame{Kind: r.Intn(13), Flags: r.Intn(256), Id: r.Intn(3)}
	switch r.Intn(20) {
	case 0:
		f.Kind = r.Intn(300) - 20
	case 1:
		f.Flags = r.Intn(300) - 20
	case 2:
		f.Id = r.Intn(api.MaxIds+20) - 10
	}
	body := make([]byte, r.Intn(14))
	for i := range body {
		body[i] = byte(r.Intn(12))
	}
	f.Body = string(body)
	return f
}

func TestFramesByTheirWordsP901(t *testing.T) {
	r := rand.New(rand.NewSource(9))
	seen := map[told]int{}
	for range 200000 {
		f := drawn(r)
		want := model(f)
		seen[want]++
		check(t, f, want)
	}
	for _, want := range []told{fine, arg, proto, size} {
		if seen[want] < 1000 {
			t.Errorf("%v: drawn %d times alone", want, seen[want])
		}
	}
}
