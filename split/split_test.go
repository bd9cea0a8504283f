package split

import (
	"math"
	"math/rand"
	"strings"
	"testing"

	"bywash/api"
	"bywash/frame"
)

// short tells a text's beginning, so that a long one does not fill what a test tells.
func short(s string) string { return s[:min(len(s), 40)] }

// put tells the bytes of a right frame.
func put(t *testing.T, f api.Frame) string {
	t.Helper()
	b, is := frame.Put(f)
	if !is {
		t.Fatalf("Put(%d %d %d, %d bytes): no frame", f.Kind, f.Flags, f.Id, len(f.Body))
	}
	return b
}

// data tells a Data of so many bytes.
func data(n int) api.Frame {
	return api.Frame{Kind: api.Data, Flags: api.End, Id: 3, Body: strings.Repeat("x", n)}
}

// made tells a Splitter that must be there.
func made(t *testing.T, most int) *Splitter {
	t.Helper()
	s := New(most)
	if s == nil {
		t.Fatalf("New(%d): nil", most)
	}
	return s
}

// checkFeed holds how many bytes are taken against what is wanted.
func checkFeed(t *testing.T, s *Splitter, b string, want int) {
	t.Helper()
	if got := s.Feed(b); got != want {
		t.Errorf("Feed(%d bytes): %d, not %d", len(b), got, want)
	}
}

// checkHeld holds what Held and Over tell against what is wanted.
func checkHeld(t *testing.T, s *Splitter, held int, over bool) {
	t.Helper()
	if s.Held() != held || s.Over() != over {
		t.Errorf("Held, Over: %d, %v, not %d, %v", s.Held(), s.Over(), held, over)
	}
}

// checkFrame holds the next frame against what is wanted.
func checkFrame(t *testing.T, s *Splitter, want api.Frame) {
	t.Helper()
	got, is, e := s.Next()
	if got != want || !is || e != api.OK {
		t.Errorf("Next: %d %d %d, %d bytes %q, %v, %d, not %d %d %d, %d bytes %q, true, 0", got.Kind, got.Flags, got.Id, len(got.Body), short(got.Body), is, e, want.Kind, want.Flags, want.Id, len(want.Body), short(want.Body))
	}
}

// checkNone holds that there is no frame, and why, and that nothing stands beside it.
func checkNone(t *testing.T, s *Splitter, want api.Errno) {
	t.Helper()
	got, is, e := s.Next()
	if got != (api.Frame{}) || is || e != want {
		t.Errorf("Next: %d %d %d, %d bytes, %v, %d, not a zero frame, false, %d", got.Kind, got.Flags, got.Id, len(got.Body), is, e, want)
	}
}

// checkOver holds all that an Over one does, again and again.
func checkOver(t *testing.T, s *Splitter) {
	t.Helper()
	ping := put(t, api.Frame{Kind: api.Ping, Body: "12345678"})
	for _, b := range []string{"", "\x00", ping, "\xff\xff\xff", ping + ping} {
		checkNone(t, s, api.ErrSize)
		checkNone(t, s, api.ErrSize)
		checkHeld(t, s, 0, true)
		checkFeed(t, s, b, 0)
		checkHeld(t, s, 0, true)
	}
	checkNone(t, s, api.ErrSize)
}

func TestNewByMostP801(t *testing.T) {
	for _, c := range []struct {
		most int
		is   bool
	}{
		{math.MinInt, false}, {-api.FirstFrame, false}, {-1, false}, {0, false}, {1, false},
		{api.FirstFrame - 1, false}, {api.FirstFrame, true}, {api.FirstFrame + 1, true}, {300, true},
		{api.MaxFrame - 1, true}, {api.MaxFrame, true}, {api.MaxFrame + 1, false}, {1<<24 - 1, false}, {math.MaxInt, false},
	} {
		s := New(c.most)
		if (s != nil) != c.is {
			t.Errorf("New(%d): %v, not %v", c.most, s != nil, c.is)
		}
		if s != nil {
			checkHeld(t, s, 0, false)
			checkNone(t, s, api.OK)
		}
	}
}

func TestNoByteAtAllP801(t *testing.T) {
	s := made(t, api.FirstFrame)
	checkNone(t, s, api.OK)
	checkFeed(t, s, "", 0)
	checkNone(t, s, api.OK)
	checkNone(t, s, api.OK)
	checkHeld(t, s, 0, false)
}

func TestHalfAFrameP801(t *testing.T) {
	f := data(20)
	b := put(t, f)
	s := made(t, api.FirstFrame)
	checkFeed(t, s, b[:14], 14)
	checkNone(t, s, api.OK)
	checkNone(t, s, api.OK)
	checkHeld(t, s, 14, false)
	checkFeed(t, s, b[14:], 15)
	checkHeld(t, s, 29, false)
	checkFrame(t, s, f)
	checkHeld(t, s, 0, false)
	checkNone(t, s, api.OK)
}

func TestAPieceEndsAtEachPlaceP801(t *testing.T) {
	a, b := api.Frame{Kind: api.Ping, Flags: api.Ack, Body: "12345678"}, data(api.FirstFrame)
	x, y := put(t, a), put(t, b)
	all := x + y
	for i := range len(all) + 1 {
		s := made(t, api.FirstFrame)
		checkFeed(t, s, all[:i], i)
		checkHeld(t, s, i, false)
		left := i
		if i >= len(x) {
			checkFrame(t, s, a)
			left -= len(x)
		}
		if i == len(all) {
			checkFrame(t, s, b)
			left = 0
		}
		checkNone(t, s, api.OK)
		checkHeld(t, s, left, false)
		checkFeed(t, s, all[i:], len(all)-i)
		if i < len(x) {
			checkFrame(t, s, a)
		}
		if i < len(all) {
			checkHeld(t, s, len(y), false)
			checkFrame(t, s, b)
		}
		checkNone(t, s, api.OK)
		checkHeld(t, s, 0, false)
	}
}

// several tells frames of many kinds, with bodies of 0 to 512 bytes.
func several() []api.Frame {
	list := []api.Frame{{Kind: api.Settings}, {Kind: 255, Flags: 255, Id: api.MaxIds, Body: "\x00\xff"}}
	for n := 1; n <= api.MaxFrame; n *= 2 {
		list = append(list, api.Frame{Kind: n % 13, Flags: n % 251, Id: n, Body: strings.Repeat("ab", n/2+1)[:n]})
	}
	return append(list, api.Frame{})
}

func TestByteByByteP801(t *testing.T) {
	s := made(t, api.MaxFrame)
	for _, f := range several() {
		b := put(t, f)
		for i := range len(b) {
			checkNone(t, s, api.OK)
			checkHeld(t, s, i, false)
			checkFeed(t, s, b[i:i+1], 1)
		}
		checkHeld(t, s, len(b), false)
		checkFrame(t, s, f)
		checkHeld(t, s, 0, false)
	}
	checkNone(t, s, api.OK)
}

func TestFramesInOnePieceP801(t *testing.T) {
	var all strings.Builder
	for _, f := range several() {
		all.WriteString(put(t, f))
	}
	s := made(t, api.MaxFrame)
	left := all.Len() + 5
	checkFeed(t, s, all.String()+"\x00\x00\x04\x08\x00", left)
	for _, f := range several() {
		checkHeld(t, s, left, false)
		checkFrame(t, s, f)
		left -= 9 + len(f.Body)
	}
	checkNone(t, s, api.OK)
	checkHeld(t, s, 5, false)
}

func TestPiecesAreHeldWithoutNextP801(t *testing.T) {
	s := made(t, api.MaxFrame)
	held := 0
	for _, f := range several() {
		for _, c := range []byte(put(t, f)) {
			checkFeed(t, s, string([]byte{c}), 1)
			held++
			checkHeld(t, s, held, false)
		}
	}
	for _, f := range several() {
		checkFrame(t, s, f)
	}
	checkHeld(t, s, 0, false)
}

func TestTheFirstBitOfAnIdDoesNotMatterP801(t *testing.T) {
	s := made(t, api.FirstFrame)
	checkFeed(t, s, "\x00\x00\x01\x00\x01\x80\x00\x00\x03x", 10)
	checkFrame(t, s, data(1))
}

func TestJustTheMostP801(t *testing.T) {
	for _, most := range []int{api.FirstFrame, api.FirstFrame + 1, 255, 256, 257, api.MaxFrame - 1, api.MaxFrame} {
		f := data(most)
		b := put(t, f)
		s := made(t, most)
		checkFeed(t, s, b+b[:3], len(b)+3)
		checkFrame(t, s, f)
		checkNone(t, s, api.OK)
		checkFeed(t, s, b[3:9], 6)
		checkNone(t, s, api.OK)
		checkFeed(t, s, b[9:len(b)-1], most-1)
		checkNone(t, s, api.OK)
		checkHeld(t, s, len(b)-1, false)
		checkFeed(t, s, "x", 1)
		checkFrame(t, s, f)
		checkHeld(t, s, 0, false)
	}
}

func TestOneMoreThanTheMostP801(t *testing.T) {
	for _, most := range []int{api.FirstFrame, api.FirstFrame + 1, 254, 255, 256, api.MaxFrame - 1, api.MaxFrame} {
		b := put(t, data(most+1))
		for _, n := range []int{3, 4, 8, 9, 10, len(b) - 1, len(b)} {
			s := made(t, most)
			checkFeed(t, s, b[:2], 2)
			checkNone(t, s, api.OK)
			checkHeld(t, s, 2, false)
			checkFeed(t, s, b[2:n], n-2)
			checkHeld(t, s, n, false)
			checkOver(t, s)
		}
	}
}

func TestEachByteOfALengthCountsP801(t *testing.T) {
	for _, c := range []struct {
		length string
		most   int
		over   bool
	}{
		{"\x00\x00\x40", 64, false}, {"\x00\x00\x41", 64, true}, {"\x00\x00\xff", 64, true}, {"\x00\x00\xff", 255, false},
		{"\x00\x01\x00", 64, true}, {"\x00\x01\x00", 255, true}, {"\x00\x01\x00", 256, false}, {"\x00\x01\xff", 512, false},
		{"\x00\x02\x00", 511, true}, {"\x00\x02\x00", 512, false}, {"\x00\x02\x01", 512, true}, {"\x00\x80\x00", 512, true},
		{"\x01\x00\x00", 64, true}, {"\x01\x00\x00", 512, true}, {"\x80\x00\x01", 512, true}, {"\xff\xff\xff", 512, true},
	} {
		s := made(t, c.most)
		checkFeed(t, s, c.length, 3)
		checkHeld(t, s, 3, false)
		if c.over {
			checkOver(t, s)
			continue
		}
		checkNone(t, s, api.OK)
		checkHeld(t, s, 3, false)
	}
}

func TestTwoBytesOfALengthDoNotTellP801(t *testing.T) {
	for _, b := range []string{"\xff", "\xff\xff", "\x01\x00", "\x00\x03"} {
		s := made(t, api.MaxFrame)
		checkFeed(t, s, b, len(b))
		checkNone(t, s, api.OK)
		checkNone(t, s, api.OK)
		checkHeld(t, s, len(b), false)
		checkFeed(t, s, "\x00\x00"[:3-len(b)], 3-len(b))
		checkOver(t, s)
	}
}

func TestFramesAheadOfATooLongOneP801(t *testing.T) {
	a, b := api.Frame{Kind: api.Ping, Body: "12345678"}, data(api.FirstFrame)
	x, y, z := put(t, a), put(t, b), put(t, data(api.FirstFrame+1))
	for _, rest := range []string{z[:3], z, z + x} {
		s := made(t, api.FirstFrame)
		checkFeed(t, s, x+y+rest, len(x)+len(y)+len(rest))
		checkFrame(t, s, a)
		checkHeld(t, s, len(y)+len(rest), false)
		checkFrame(t, s, b)
		checkHeld(t, s, len(rest), false)
		checkOver(t, s)
	}
}

func TestItIsOverByNextAloneP801(t *testing.T) {
	b := put(t, data(api.FirstFrame+1))
	s := made(t, api.FirstFrame)
	checkFeed(t, s, b, len(b))
	checkHeld(t, s, len(b), false)
	checkFeed(t, s, b, len(b))
	checkHeld(t, s, 2*len(b), false)
	checkOver(t, s)
}

func TestNilAndZeroP801(t *testing.T) {
	for _, s := range []*Splitter{nil, {}, New(api.FirstFrame - 1), New(api.MaxFrame + 1)} {
		for _, b := range []string{"", "x", put(t, api.Frame{Kind: api.Settings}), "\xff\xff\xff"} {
			checkHeld(t, s, 0, true)
			checkNone(t, s, api.ErrState)
			checkFeed(t, s, b, 0)
			checkHeld(t, s, 0, true)
			checkNone(t, s, api.ErrState)
		}
	}
}

func TestSplittersDoNotShareP801(t *testing.T) {
	a, b, c := data(5), data(65), api.Frame{Kind: api.Settings}
	x, y, z := put(t, a), put(t, b), put(t, c)
	one, two := made(t, api.FirstFrame), made(t, api.MaxFrame)
	checkFeed(t, one, x[:7], 7)
	checkFeed(t, two, y, len(y))
	checkFeed(t, one, x[7:]+y, len(x)-7+len(y))
	checkFeed(t, two, z, len(z))
	checkFrame(t, one, a)
	checkNone(t, one, api.ErrSize)
	checkFrame(t, two, b)
	checkHeld(t, one, 0, true)
	checkHeld(t, two, len(z), false)
	checkFrame(t, two, c)
}

func TestManyFramesAtOnceP801(t *testing.T) {
	const many = 1 << 18
	f := api.Frame{Kind: api.Settings, Flags: api.Ack}
	b := put(t, f)
	s := made(t, api.FirstFrame)
	checkFeed(t, s, strings.Repeat(b, many), many*len(b))
	for i := range many {
		got, is, e := s.Next()
		if got != f || !is || e != api.OK || s.Held() != (many-1-i)*len(b) {
			t.Fatalf("frame %d: %v, %v, %d, %d bytes held", i, got, is, e, s.Held())
		}
	}
	checkNone(t, s, api.OK)
}

// model is a Splitter by the document's words: all that was taken stands in one text, with a place up to which it went.
type model struct {
	most, at int
	all      string
	over     bool
}

func (m *model) feed(b string) int {
	if m.over {
		return 0
	}
	m.all += b
	return len(b)
}

func (m *model) next() (api.Frame, bool, api.Errno) {
	if m.over {
		return api.Frame{}, false, api.ErrSize
	}
	rest := m.all[m.at:]
	if len(rest) >= 3 && (int(rest[0])*256+int(rest[1]))*256+int(rest[2]) > m.most {
		m.over, m.at = true, len(m.all)
		return api.Frame{}, false, api.ErrSize
	}
	f, took, e := frame.Get(rest)
	if e != api.OK {
		return api.Frame{}, false, api.OK
	}
	m.at += took
	return f, true, api.OK
}

// drawn tells the bytes of some frames, of which one is now and then too long.
func drawn(r *rand.Rand, t *testing.T, most int) string {
	var all strings.Builder
	for range r.Intn(12) {
		n := r.Intn(20)
		switch r.Intn(12) {
		case 0:
			n = most - r.Intn(3)
		case 1:
			n = most + r.Intn(2)
		}
		body := make([]byte, n)
		r.Read(body)
		all.WriteString(put(t, api.Frame{Kind: r.Intn(256), Flags: r.Intn(256), Id: r.Intn(api.MaxIds), Body: string(body)}))
	}
	return all.String()
}

func TestPiecesByTheirWordsP801(t *testing.T) {
	r := rand.New(rand.NewSource(8))
	frames, overs := 0, 0
	for range 3000 {
		most := api.FirstFrame + r.Intn(api.MaxFrame-api.FirstFrame+1)
		s, m := made(t, most), &model{most: most}
		var got, want []api.Frame
		for left := drawn(r, t, most); left != ""; {
			n := min(len(left), 1+r.Intn(1<<r.Intn(9)))
			checkFeed(t, s, left[:n], m.feed(left[:n]))
			left = left[n:]
			for range r.Intn(4) {
				f, is, e := s.Next()
				g, was, d := m.next()
				if is != was || e != d {
					t.Fatalf("Next: %v, %d, not %v, %d", is, e, was, d)
				}
				got, want = append(got, f), append(want, g)
			}
			checkHeld(t, s, len(m.all)-m.at, m.over)
		}
		// Held against each other at the end, so that bytes that came later would show in them.
		for i := range want {
			if got[i] != want[i] {
				t.Fatalf("frame %d of %d: %d, %d bytes, not %d, %d bytes", i, len(want), got[i].Kind, len(got[i].Body), want[i].Kind, len(want[i].Body))
			}
		}
		frames += len(want)
		if m.over {
			overs++
		}
	}
	if frames < 10000 || overs < 300 {
		t.Errorf("drawn: %d frames, %d of them too long, alone", frames, overs)
	}
}
