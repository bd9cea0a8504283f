package frame

import (
	"bytes"
	"encoding/binary"
	"math"
	"math/rand"
	"strings"
	"testing"

	"bywash/api"
)

// short tells a text's beginning, so that a long one does not fill what a test tells.
func short(s string) string { return s[:min(len(s), 40)] }

// checkPut holds the bytes of a right frame against what is wanted.
func checkPut(t *testing.T, f api.Frame, want string) {
	t.Helper()
	if got, is := Put(f); got != want || !is {
		t.Errorf("Put(%d %d %d, %d bytes): %q, %v, not %q, true", f.Kind, f.Flags, f.Id, len(f.Body), short(got), is, short(want))
	}
}

// checkRight holds Right, and whether Put takes a frame, against what is wanted.
func checkRight(t *testing.T, f api.Frame, want bool) {
	t.Helper()
	if got := Right(f); got != want {
		t.Errorf("Right(%d %d %d, %d bytes): %v, not %v", f.Kind, f.Flags, f.Id, len(f.Body), got, want)
	}
	b, is := Put(f)
	long := 0
	if want {
		long = 9 + len(f.Body)
	}
	if is != want || len(b) != long {
		t.Errorf("Put(%d %d %d, %d bytes): %d bytes, %v, not %d, %v", f.Kind, f.Flags, f.Id, len(f.Body), len(b), is, long, want)
	}
}

// checkGet holds the first frame of bytes against what is wanted.
func checkGet(t *testing.T, b string, want api.Frame, took int) {
	t.Helper()
	got, n, e := Get(b)
	if got != want || n != took || e != api.OK {
		t.Errorf("Get(%d bytes %q): %d %d %d %q, %d, %d, not %d %d %d %q, %d, 0", len(b), short(b), got.Kind, got.Flags, got.Id, short(got.Body), n, e, want.Kind, want.Flags, want.Id, short(want.Body), took)
	}
}

// checkMore holds that bytes lack.
func checkMore(t *testing.T, b string) {
	t.Helper()
	got, n, e := Get(b)
	if got != (api.Frame{}) || n != 0 || e != api.ErrMore {
		t.Errorf("Get(%d bytes %q): %d %d %d %q, %d, %d, not ErrMore alone", len(b), short(b), got.Kind, got.Flags, got.Id, short(got.Body), n, e)
	}
}

// checkStrip holds what is left of a body, and what went, against what is wanted.
func checkStrip(t *testing.T, kind, flags int, body, want string, went int) {
	t.Helper()
	got, n, e := Strip(api.Frame{Kind: kind, Flags: flags, Id: 1, Body: body})
	if got != want || n != went || e != api.OK {
		t.Errorf("Strip(%d, %d, %q): %q, %d, %d, not %q, %d, 0", kind, flags, short(body), short(got), n, e, short(want), went)
	}
}

// checkStripError holds that a body tells an error, and nothing beside it.
func checkStripError(t *testing.T, kind, flags int, body string, want api.Errno) {
	t.Helper()
	got, n, e := Strip(api.Frame{Kind: kind, Flags: flags, Id: 1, Body: body})
	if got != "" || n != 0 || e != want {
		t.Errorf("Strip(%d, %d, %q): %q, %d, %d, not empty, 0, %d", kind, flags, short(body), short(got), n, e, want)
	}
}

func TestRightByItsNumbersP701(t *testing.T) {
	for _, c := range []struct {
		n  int
		is bool
	}{{math.MinInt, false}, {-256, false}, {-1, false}, {0, true}, {1, true}, {254, true}, {255, true}, {256, false}, {512, false}, {math.MaxInt, false}} {
		checkRight(t, api.Frame{Kind: c.n, Flags: 1, Id: 1, Body: "x"}, c.is)
		checkRight(t, api.Frame{Kind: 1, Flags: c.n, Id: 1, Body: "x"}, c.is)
	}
	for _, c := range []struct {
		n  int
		is bool
	}{{math.MinInt, false}, {-1, false}, {0, true}, {1, true}, {2, true}, {256, true}, {api.MaxIds - 1, true}, {api.MaxIds, true}, {api.MaxIds + 1, false}, {1 << 32, false}, {math.MaxInt, false}} {
		checkRight(t, api.Frame{Kind: 1, Flags: 1, Id: c.n, Body: "x"}, c.is)
	}
	checkRight(t, api.Frame{}, true)
	checkRight(t, api.Frame{Kind: 255, Flags: 255, Id: api.MaxIds}, true)
	checkRight(t, api.Frame{Kind: 256, Flags: 256, Id: api.MaxIds + 1}, false)
	checkRight(t, api.Frame{Kind: -1, Flags: -1, Id: -1}, false)
}

func TestRightByItsBodyP701(t *testing.T) {
	most := 16777215
	body := strings.Repeat("x", most+1)
	for _, c := range []struct {
		long int
		is   bool
	}{{0, true}, {1, true}, {api.MaxFrame, true}, {api.MaxFrame + 1, true}, {65536, true}, {most - 1, true}, {most, true}, {most + 1, false}} {
		checkRight(t, api.Frame{Body: body[:c.long]}, c.is)
	}
}

func TestPutP701(t *testing.T) {
	checkPut(t, api.Frame{}, "\x00\x00\x00\x00\x00\x00\x00\x00\x00")
	checkPut(t, api.Frame{Kind: api.Settings}, "\x00\x00\x00\x04\x00\x00\x00\x00\x00")
	checkPut(t, api.Frame{Kind: api.Headers, Flags: api.End | api.Whole, Id: 3, Body: "\x82"}, "\x00\x00\x01\x01\x05\x00\x00\x00\x03\x82")
	checkPut(t, api.Frame{Kind: 10, Flags: 20, Id: 0x01020304, Body: "abc"}, "\x00\x00\x03\x0a\x14\x01\x02\x03\x04abc")
	checkPut(t, api.Frame{Kind: 255, Flags: 255, Id: api.MaxIds, Body: "\x00\xff"}, "\x00\x00\x02\xff\xff\x7f\xff\xff\xff\x00\xff")
	checkPut(t, api.Frame{Id: 255}, "\x00\x00\x00\x00\x00\x00\x00\x00\xff")
	checkPut(t, api.Frame{Id: 256}, "\x00\x00\x00\x00\x00\x00\x00\x01\x00")
	checkPut(t, api.Frame{Id: 65536}, "\x00\x00\x00\x00\x00\x00\x01\x00\x00")
	checkPut(t, api.Frame{Id: 1 << 24}, "\x00\x00\x00\x00\x00\x01\x00\x00\x00")
}

// lengths are those at which a byte of a length turns, and the nine bytes ahead of an empty frame of kind 1, flags 2, stream 3.
func lengths() map[int]string {
	return map[int]string{
		0:          "\x00\x00\x00\x01\x02\x00\x00\x00\x03",
		255:        "\x00\x00\xff\x01\x02\x00\x00\x00\x03",
		256:        "\x00\x01\x00\x01\x02\x00\x00\x00\x03",
		300:        "\x00\x01\x2c\x01\x02\x00\x00\x00\x03",
		65535:      "\x00\xff\xff\x01\x02\x00\x00\x00\x03",
		65536:      "\x01\x00\x00\x01\x02\x00\x00\x00\x03",
		0x010203:   "\x01\x02\x03\x01\x02\x00\x00\x00\x03",
		16_777_215: "\xff\xff\xff\x01\x02\x00\x00\x00\x03",
	}
}

func TestLengthsP701(t *testing.T) {
	for long, ahead := range lengths() {
		body := strings.Repeat("y", long)
		f := api.Frame{Kind: 1, Flags: 2, Id: 3, Body: body}
		checkPut(t, f, ahead+body)
		checkGet(t, ahead+body, f, 9+long)
		checkGet(t, ahead+body+"z", f, 9+long)
		if long > 0 {
			checkMore(t, ahead+body[1:])
		}
	}
}

func TestGetP701(t *testing.T) {
	checkGet(t, "\x00\x00\x00\x00\x00\x00\x00\x00\x00", api.Frame{}, 9)
	checkGet(t, "\x00\x00\x00\x04\x01\x00\x00\x00\x00", api.Frame{Kind: api.Settings, Flags: api.Ack}, 9)
	checkGet(t, "\x00\x00\x03\x0a\x14\x01\x02\x03\x04abc", api.Frame{Kind: 10, Flags: 20, Id: 0x01020304, Body: "abc"}, 12)
	checkGet(t, "\x00\x00\x02\xff\xff\x7f\xff\xff\xff\x00\xff", api.Frame{Kind: 255, Flags: 255, Id: api.MaxIds, Body: "\x00\xff"}, 11)
}

func TestGetOfTheFirstBitP701(t *testing.T) {
	checkGet(t, "\x00\x00\x00\x00\x00\x80\x00\x00\x00", api.Frame{}, 9)
	checkGet(t, "\x00\x00\x01\x01\x02\x80\x00\x00\x05z", api.Frame{Kind: 1, Flags: 2, Id: 5, Body: "z"}, 10)
	checkGet(t, "\x00\x00\x01\x01\x02\x81\x02\x03\x04z", api.Frame{Kind: 1, Flags: 2, Id: 0x01020304, Body: "z"}, 10)
	checkGet(t, "\x00\x00\x00\x00\x00\xff\xff\xff\xff", api.Frame{Id: api.MaxIds}, 9)
}

func TestGetOfAPieceP701(t *testing.T) {
	for _, b := range []string{
		"\x00\x00\x00\x04\x00\x00\x00\x00\x00",
		"\x00\x00\x03\x0a\x14\x01\x02\x03\x04abc",
		"\x00\x01\x00\x00\x01\xff\xff\xff\xff" + strings.Repeat("\x00", 256),
	} {
		for i := range len(b) {
			checkMore(t, b[:i])
		}
	}
	checkMore(t, "\xff\xff\xff\xff\xff\xff\xff\xff\xff")
}

func TestGetOfTheFirstOfSomeP701(t *testing.T) {
	first, second := "\x00\x00\x02\x00\x01\x00\x00\x00\x01hi", "\x00\x00\x00\x04\x00\x00\x00\x00\x00"
	checkGet(t, first+second, api.Frame{Flags: 1, Id: 1, Body: "hi"}, 11)
	checkGet(t, second+first, api.Frame{Kind: api.Settings}, 9)
	checkGet(t, first+"\xff", api.Frame{Flags: 1, Id: 1, Body: "hi"}, 11)
	checkGet(t, first+second[:8], api.Frame{Flags: 1, Id: 1, Body: "hi"}, 11)
}

func TestNameP701(t *testing.T) {
	for kind, want := range map[int]string{
		0: "data", 1: "headers", 2: "priority", 3: "reset", 4: "settings", 5: "promise", 6: "ping", 7: "away", 8: "update", 9: "continue",
		-1: "other", 10: "other", 11: "other", 255: "other", 256: "other", -256: "other", math.MinInt: "other", math.MaxInt: "other",
	} {
		if got := Name(kind); got != want {
			t.Errorf("Name(%d): %q, not %q", kind, got, want)
		}
	}
}

func TestStripOfDataP702(t *testing.T) {
	for _, flags := range []int{0, api.End, api.Whole, api.Weighed, 255 &^ api.Padded} {
		checkStrip(t, api.Data, flags, "", "", 0)
		checkStrip(t, api.Data, flags, "\x02", "\x02", 0)
		checkStrip(t, api.Data, flags, "\x02abcdefg", "\x02abcdefg", 0)
	}
	for _, flags := range []int{api.Padded, api.Padded | api.End, api.Padded | api.Weighed, 255} {
		checkStrip(t, api.Data, flags, "\x00", "", 1)
		checkStrip(t, api.Data, flags, "\x00abc", "abc", 1)
		checkStrip(t, api.Data, flags, "\x01abc", "ab", 2)
		checkStrip(t, api.Data, flags, "\x03abc", "", 4)
		checkStripError(t, api.Data, flags, "", api.ErrProto)
		checkStripError(t, api.Data, flags, "\x01", api.ErrProto)
		checkStripError(t, api.Data, flags, "\x04abc", api.ErrProto)
		checkStripError(t, api.Data, flags, "\xffabc", api.ErrProto)
	}
}

func TestStripOfAGreatPaddingP702(t *testing.T) {
	pad := strings.Repeat("\x00", 255)
	for _, kind := range []int{api.Data, api.Headers} {
		checkStrip(t, kind, api.Padded, "\xffab"+pad, "ab", 256)
		checkStrip(t, kind, api.Padded, "\xff"+pad, "", 256)
		checkStripError(t, kind, api.Padded, "\xff"+pad[1:], api.ErrProto)
		checkStrip(t, kind, api.Padded, "\x80"+pad[:129], "\x00", 129)
	}
}

func TestStripOfAnyPaddingP702(t *testing.T) {
	// What a padding is does not matter, how long it is does.
	body := "body" + strings.Repeat("\xff", 255)
	for pad := range 256 {
		checkStrip(t, api.Data, api.Padded, string([]byte{byte(pad)})+body[:4+pad], "body", 1+pad)
	}
}

func TestStripOfHeadersP702(t *testing.T) {
	for _, flags := range []int{0, api.End, api.Whole, 255 &^ api.Padded &^ api.Weighed} {
		checkStrip(t, api.Headers, flags, "", "", 0)
		checkStrip(t, api.Headers, flags, "\x02abcdefg", "\x02abcdefg", 0)
	}
	for _, flags := range []int{api.Padded, api.Padded | api.End, 255 &^ api.Weighed} {
		checkStrip(t, api.Headers, flags, "\x00", "", 1)
		checkStrip(t, api.Headers, flags, "\x00abc", "abc", 1)
		checkStrip(t, api.Headers, flags, "\x02abc", "a", 3)
		checkStrip(t, api.Headers, flags, "\x03abc", "", 4)
		checkStripError(t, api.Headers, flags, "", api.ErrProto)
		checkStripError(t, api.Headers, flags, "\x04abc", api.ErrProto)
	}
}

func TestStripOfWeighedHeadersP702(t *testing.T) {
	for _, flags := range []int{api.Weighed, api.Weighed | api.End | api.Whole, 255 &^ api.Padded} {
		checkStripError(t, api.Headers, flags, "", api.ErrSize)
		checkStripError(t, api.Headers, flags, "1", api.ErrSize)
		checkStripError(t, api.Headers, flags, "1234", api.ErrSize)
		checkStrip(t, api.Headers, flags, "12345", "", 5)
		checkStrip(t, api.Headers, flags, "12345a", "a", 5)
		checkStrip(t, api.Headers, flags, "\x00\x00\x00\x00\xffabc", "abc", 5)
	}
}

func TestStripOfPaddedAndWeighedHeadersP702(t *testing.T) {
	for _, flags := range []int{api.Padded | api.Weighed, api.Padded | api.Weighed | api.End | api.Whole, 255} {
		checkStrip(t, api.Headers, flags, "\x0012345", "", 6)
		checkStrip(t, api.Headers, flags, "\x0012345a", "a", 6)
		checkStrip(t, api.Headers, flags, "\x0212345abcd", "ab", 8)
		checkStrip(t, api.Headers, flags, "\x0212345ab", "", 8)
		checkStripError(t, api.Headers, flags, "\x00", api.ErrSize)
		checkStripError(t, api.Headers, flags, "\x001234", api.ErrSize)
		checkStripError(t, api.Headers, flags, "\x0112345", api.ErrSize)
		checkStripError(t, api.Headers, flags, "\x0512345", api.ErrSize)
		checkStripError(t, api.Headers, flags, "\x0612345", api.ErrProto)
	}
}

func TestStripTellsThePaddingFirstP702(t *testing.T) {
	checkStripError(t, api.Headers, api.Padded|api.Weighed, "", api.ErrProto)
	checkStripError(t, api.Headers, api.Padded|api.Weighed, "\x01", api.ErrProto)
	checkStripError(t, api.Headers, api.Padded|api.Weighed, "\x09abc", api.ErrProto)
}

func TestStripOfOthersP702(t *testing.T) {
	for _, kind := range []int{2, 3, 4, 5, 6, 7, 8, 9, 10, 254, 255, 256, -1, math.MinInt, math.MaxInt} {
		for _, flags := range []int{0, api.Padded, api.Weighed, api.Padded | api.Weighed, 255} {
			for _, body := range []string{"", "\x00", "\x01", "\x02abc", "\xff", "1234", "12345", "\x0212345abcd"} {
				checkStrip(t, kind, flags, body, body, 0)
			}
		}
	}
}

// modelPut tells the bytes of a right frame by the document's words: a number in three bytes is one in four without the first.
func modelPut(f api.Frame) string {
	var b bytes.Buffer
	four := binary.BigEndian.AppendUint32(nil, uint32(len(f.Body)))
	b.Write(four[1:])
	b.WriteByte(byte(f.Kind))
	b.WriteByte(byte(f.Flags))
	b.Write(binary.BigEndian.AppendUint32(nil, uint32(f.Id)))
	b.WriteString(f.Body)
	return b.String()
}

// modelStrip tells a body byte by byte: the padding is taken off at the end, then what is ahead.
func modelStrip(f api.Frame) (string, int, api.Errno) {
	left, went := []byte(f.Body), 0
	padded := f.Flags/api.Padded%2 == 1 && (f.Kind == api.Data || f.Kind == api.Headers)
	weighed := f.Flags/api.Weighed%2 == 1 && f.Kind == api.Headers
	if padded {
		if len(left) == 0 {
			return "", 0, api.ErrProto
		}
		pad := left[0]
		left, went = left[1:], 1
		for ; pad > 0; pad-- {
			if len(left) == 0 {
				return "", 0, api.ErrProto
			}
			left, went = left[:len(left)-1], went+1
		}
	}
	if weighed {
		for range 5 {
			if len(left) == 0 {
				return "", 0, api.ErrSize
			}
			left, went = left[1:], went+1
		}
	}
	return string(left), went, api.OK
}

// drawn tells a right frame, whose body begins with a byte that often tells a padding.
func drawn(r *rand.Rand) api.Frame {
	f := api.Frame{Kind: r.Intn(12), Flags: r.Intn(256), Id: r.Intn(api.MaxIds)}
	if r.Intn(2) == 0 {
		f.Kind = r.Intn(2)
	}
	if r.Intn(2) == 0 {
		f.Id = r.Intn(300)
	}
	body := make([]byte, r.Intn(16))
	r.Read(body)
	if len(body) > 0 && r.Intn(4) > 0 {
		body[0] = byte(r.Intn(len(body) + 2))
	}
	f.Body = string(body)
	return f
}

func TestFramesByTheirWordsP701(t *testing.T) {
	r := rand.New(rand.NewSource(7))
	rest := ""
	for range 20000 {
		f := drawn(r)
		b := modelPut(f)
		checkPut(t, f, b)
		checkGet(t, b+rest, f, len(b))
		checkMore(t, b[:r.Intn(len(b))])
		rest = b
	}
}

func TestStripByItsWordsP702(t *testing.T) {
	r := rand.New(rand.NewSource(72))
	seen := map[api.Errno]int{}
	for range 100000 {
		f := drawn(r)
		want, went, e := modelStrip(f)
		seen[e]++
		if e != api.OK {
			checkStripError(t, f.Kind, f.Flags, f.Body, e)
			continue
		}
		checkStrip(t, f.Kind, f.Flags, f.Body, want, went)
	}
	for _, e := range []api.Errno{api.OK, api.ErrProto, api.ErrSize} {
		if seen[e] < 1000 {
			t.Errorf("%d: drawn %d times alone", e, seen[e])
		}
	}
}

func TestStripIsTheSameForAnyIdP702(t *testing.T) {
	for _, id := range []int{-1, 0, 1, api.MaxIds, api.MaxIds + 1} {
		got, n, e := Strip(api.Frame{Kind: api.Headers, Flags: api.Padded | api.Weighed, Id: id, Body: "\x0212345abcd"})
		if got != "ab" || n != 8 || e != api.OK {
			t.Errorf("Strip of stream %d: %q, %d, %d", id, got, n, e)
		}
	}
}
