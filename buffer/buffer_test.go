package buffer

import (
	"math"
	"math/rand"
	"strings"
	"testing"
)

// made tells a Buffer that must be there.
func made(t *testing.T, most int) *Buffer {
	t.Helper()
	b := New(most)
	if b == nil {
		t.Fatalf("New(%d): nil", most)
	}
	return b
}

// filled tells a Buffer with these bytes in it.
func filled(t *testing.T, most int, s string) *Buffer {
	t.Helper()
	b := made(t, most)
	checkPut(t, b, s, true)
	return b
}

// short tells a text's beginning, so that a long one does not fill what a test tells.
func short(s string) string { return s[:min(len(s), 40)] }

// checkPut holds whether bytes are taken against what is wanted.
func checkPut(t *testing.T, b *Buffer, s string, want bool) {
	t.Helper()
	if got := b.Put(s); got != want {
		t.Errorf("Put(%d bytes %q): %v, not %v", len(s), short(s), got, want)
	}
}

// checkEnd holds what End tells against what is wanted.
func checkEnd(t *testing.T, b *Buffer, want bool) {
	t.Helper()
	if got := b.End(); got != want {
		t.Errorf("End: %v, not %v", got, want)
	}
}

// checkGet holds the bytes that come out against those that are wanted.
func checkGet(t *testing.T, b *Buffer, n int, want string) {
	t.Helper()
	if got := b.Get(n); got != want {
		t.Errorf("Get(%d): %d bytes %q, not %d bytes %q", n, len(got), short(got), len(want), short(want))
	}
}

// checkDrop holds how many bytes go against what is wanted.
func checkDrop(t *testing.T, b *Buffer, want int) {
	t.Helper()
	if got := b.Drop(); got != want {
		t.Errorf("Drop: %d, not %d", got, want)
	}
}

// checkTold holds what Len, Ended and Done tell against what is wanted.
func checkTold(t *testing.T, b *Buffer, held int, ended, done bool) {
	t.Helper()
	if b.Len() != held || b.Ended() != ended || b.Done() != done {
		t.Errorf("Len, Ended, Done: %d, %v, %v, not %d, %v, %v", b.Len(), b.Ended(), b.Done(), held, ended, done)
	}
}

// checkIs holds all that is in it against what is wanted, and takes it out.
func checkIs(t *testing.T, b *Buffer, s string, ended bool) {
	t.Helper()
	checkTold(t, b, len(s), ended, ended && s == "")
	checkGet(t, b, math.MaxInt, s)
	checkTold(t, b, 0, ended, ended)
}

// checkOver holds all that one does into which nothing may go and out of which nothing comes.
func checkOver(t *testing.T, b *Buffer) {
	t.Helper()
	for range 2 {
		checkPut(t, b, "", false)
		checkPut(t, b, "x", false)
		checkPut(t, b, strings.Repeat("x", 100), false)
		checkEnd(t, b, false)
		for _, n := range []int{math.MinInt, -1, 0, 1, 2, math.MaxInt} {
			checkGet(t, b, n, "")
		}
		checkTold(t, b, 0, true, true)
		checkDrop(t, b, 0)
		checkTold(t, b, 0, true, true)
	}
}

func TestExampleP1301(t *testing.T) {
	b := made(t, 5)
	checkPut(t, b, "abc", true)
	checkGet(t, b, 2, "ab")
	checkTold(t, b, 1, false, false)
}

func TestNewP1301(t *testing.T) {
	for _, most := range []int{math.MinInt, -100, -1, 0} {
		if b := New(most); b != nil {
			t.Errorf("New(%d): not nil", most)
		}
	}
	for _, most := range []int{1, 2, 64, 1 << 16, 1 << 31, math.MaxInt} {
		b := made(t, most)
		checkTold(t, b, 0, false, false)
		checkPut(t, b, "x", true)
		checkIs(t, b, "x", false)
	}
}

func TestPutOfNothingP1301(t *testing.T) {
	b := made(t, 2)
	checkPut(t, b, "", true)
	checkTold(t, b, 0, false, false)
	checkPut(t, b, "ab", true)
	checkPut(t, b, "", true)
	checkIs(t, b, "ab", false)
}

func TestPutOfAsManyAsThereIsRoomForP1301(t *testing.T) {
	for _, most := range []int{1, 2, 5, 64, 1000} {
		all := strings.Repeat("abcdefg", 200)[:most]
		for cut := range most + 1 {
			b := made(t, most)
			checkPut(t, b, all[:cut], true)
			checkPut(t, b, all[cut:]+"z", false)
			checkTold(t, b, cut, false, false)
			checkPut(t, b, all[cut:], true)
			checkPut(t, b, "z", false)
			checkIs(t, b, all, false)
		}
	}
}

func TestPutOfMoreThanMostIntoAnEmptyOneP1301(t *testing.T) {
	b := made(t, 3)
	checkPut(t, b, "abcd", false)
	checkTold(t, b, 0, false, false)
	checkPut(t, b, strings.Repeat("x", 1000), false)
	checkTold(t, b, 0, false, false)
	checkPut(t, b, "abc", true)
	checkIs(t, b, "abc", false)
	checkPut(t, b, "abcd", false)
	checkIs(t, b, "", false)
}

func TestPutIntoOneOfWhichSomeWasTakenP1301(t *testing.T) {
	b := filled(t, 5, "abcde")
	checkGet(t, b, 2, "ab")
	checkPut(t, b, "xyz", false)
	checkTold(t, b, 3, false, false)
	checkPut(t, b, "xy", true)
	checkPut(t, b, "z", false)
	checkTold(t, b, 5, false, false)
	checkGet(t, b, 4, "cdex")
	checkPut(t, b, "12345", false)
	checkPut(t, b, "1234", true)
	checkIs(t, b, "y1234", false)
	checkPut(t, b, "67890", true)
	checkIs(t, b, "67890", false)
}

func TestPutOfManyByOneP1301(t *testing.T) {
	const all = 100000
	b := made(t, 3)
	for i := range all {
		checkPut(t, b, string([]byte{byte(i)}), true)
		if i >= 2 {
			checkTold(t, b, 3, false, false)
			checkPut(t, b, "z", false)
			checkGet(t, b, 1, string([]byte{byte(i - 2)}))
		}
	}
	checkTold(t, b, 2, false, false)
}

func TestPutBehindEndP1301(t *testing.T) {
	b := filled(t, 5, "ab")
	checkEnd(t, b, true)
	for _, s := range []string{"", "x", "xyz", "xyzw"} {
		checkPut(t, b, s, false)
		checkTold(t, b, 2, true, false)
	}
	checkGet(t, b, 1, "a")
	checkPut(t, b, "x", false)
	checkIs(t, b, "b", true)
	checkPut(t, b, "", false)
	checkPut(t, b, "x", false)
	checkIs(t, b, "", true)
}

func TestEndP1301(t *testing.T) {
	b := filled(t, 5, "ab")
	checkEnd(t, b, true)
	checkTold(t, b, 2, true, false)
	checkEnd(t, b, false)
	checkTold(t, b, 2, true, false)
	checkIs(t, b, "ab", true)
	checkEnd(t, b, false)
	checkTold(t, b, 0, true, true)
}

func TestEndOfAnEmptyOneP1301(t *testing.T) {
	b := made(t, 5)
	checkEnd(t, b, true)
	checkOver(t, b)

	b = filled(t, 5, "ab")
	checkGet(t, b, 2, "ab")
	checkEnd(t, b, true)
	checkOver(t, b)
}

func TestGetP1301(t *testing.T) {
	b := filled(t, 9, "abcdefg")
	for _, n := range []int{math.MinInt, -7, -1, 0} {
		checkGet(t, b, n, "")
		checkTold(t, b, 7, false, false)
	}
	checkGet(t, b, 1, "a")
	checkTold(t, b, 6, false, false)
	checkGet(t, b, 2, "bc")
	checkTold(t, b, 4, false, false)
	checkGet(t, b, 3, "def")
	checkTold(t, b, 1, false, false)
	checkGet(t, b, 1, "g")
	checkTold(t, b, 0, false, false)
}

func TestGetOfAllAndOfMoreP1301(t *testing.T) {
	for _, n := range []int{3, 4, 5, 6, 1 << 32, math.MaxInt} {
		b := filled(t, 5, "abc")
		checkGet(t, b, n, "abc")
		checkTold(t, b, 0, false, false)
		checkGet(t, b, n, "")
		checkPut(t, b, "vwxyz", true)
		checkIs(t, b, "vwxyz", false)
	}
}

func TestGetOfAnEmptyOneP1301(t *testing.T) {
	b := made(t, 5)
	for _, n := range []int{math.MinInt, -1, 0, 1, 5, math.MaxInt} {
		checkGet(t, b, n, "")
		checkTold(t, b, 0, false, false)
	}
}

func TestGetBehindEndP1301(t *testing.T) {
	b := filled(t, 5, "abcde")
	checkEnd(t, b, true)
	checkGet(t, b, 0, "")
	checkGet(t, b, -1, "")
	checkTold(t, b, 5, true, false)
	checkGet(t, b, 2, "ab")
	checkTold(t, b, 3, true, false)
	checkGet(t, b, 99, "cde")
	checkOver(t, b)
}

func TestDoneP1301(t *testing.T) {
	b := made(t, 5)
	checkTold(t, b, 0, false, false)
	checkPut(t, b, "ab", true)
	checkTold(t, b, 2, false, false)
	checkGet(t, b, 2, "ab")
	checkTold(t, b, 0, false, false)
	checkPut(t, b, "cd", true)
	checkEnd(t, b, true)
	checkTold(t, b, 2, true, false)
	checkGet(t, b, 1, "c")
	checkTold(t, b, 1, true, false)
	checkGet(t, b, 1, "d")
	checkTold(t, b, 0, true, true)
}

func TestDropP1301(t *testing.T) {
	b := made(t, 5)
	checkDrop(t, b, 0)
	checkOver(t, b)

	b = filled(t, 5, "abcde")
	checkDrop(t, b, 5)
	checkOver(t, b)

	b = filled(t, 5, "abcde")
	checkGet(t, b, 2, "ab")
	checkDrop(t, b, 3)
	checkOver(t, b)

	b = filled(t, 5, "abcde")
	checkPut(t, b, "f", false)
	checkDrop(t, b, 5)
	checkOver(t, b)
}

func TestDropBehindEndP1301(t *testing.T) {
	b := filled(t, 5, "abcde")
	checkEnd(t, b, true)
	checkDrop(t, b, 5)
	checkOver(t, b)

	b = filled(t, 5, "abcde")
	checkEnd(t, b, true)
	checkGet(t, b, 4, "abcd")
	checkDrop(t, b, 1)
	checkOver(t, b)

	b = made(t, 5)
	checkEnd(t, b, true)
	checkDrop(t, b, 0)
	checkOver(t, b)
}

func TestNilAndZeroP1301(t *testing.T) {
	var none *Buffer
	checkOver(t, none)
	checkOver(t, &Buffer{})
	checkTold(t, &Buffer{}, 0, true, true)
	checkTold(t, none, 0, true, true)
	checkPut(t, &Buffer{}, "", false)
	checkEnd(t, &Buffer{}, false)
	checkDrop(t, &Buffer{}, 0)
}

func TestEachHasItsOwnP1301(t *testing.T) {
	a, b := filled(t, 5, "abc"), filled(t, 5, "xyz")
	checkEnd(t, a, true)
	checkPut(t, b, "w", true)
	checkDrop(t, a, 3)
	checkIs(t, b, "xyzw", false)
	checkOver(t, a)
}

func TestWhatCameOutStaysP1301(t *testing.T) {
	b := filled(t, 6, "abcdef")
	first, second := b.Get(2), b.Get(3)
	for range 100 {
		checkPut(t, b, "12345", true)
		b.Get(5)
	}
	b.Drop()
	if first != "ab" || second != "cde" {
		t.Errorf("what came out became %q and %q", first, second)
	}
}

// everyByte tells each byte that there is, twice, in two orders.
func everyByte() string {
	l := make([]byte, 0, 512)
	for i := range 256 {
		l = append(l, byte(i))
	}
	for i := range 256 {
		l = append(l, byte(i*7))
	}
	return string(l)
}

func TestBytesOfEveryValueInPiecesP1301(t *testing.T) {
	all := everyByte()
	for in := 1; in <= len(all); in += 1 + in/7 {
		for out := 1; out <= len(all); out += 1 + out/7 {
			b, got := made(t, len(all)), ""
			for at := 0; at < len(all); at += in {
				checkPut(t, b, all[at:min(at+in, len(all))], true)
				if at%3 == 0 {
					got += b.Get(out)
				}
			}
			checkEnd(t, b, true)
			for !b.Done() {
				s := b.Get(out)
				got += s
				if s == "" || len(got) > len(all) {
					t.Fatalf("in by %d, out by %d: %d bytes came, %d are there still", in, out, len(got), b.Len())
				}
			}
			if got != all {
				t.Fatalf("in by %d, out by %d: other bytes came out", in, out)
			}
		}
	}
}

// words is a buffer by the chapter's words.
type words struct {
	most  int
	held  string
	ended bool
}

// drawnText tells some bytes, most often about as many as there is room for.
func drawnText(r *rand.Rand, room int) string {
	n := r.Intn(4)
	if r.Intn(2) == 0 {
		n = max(0, room+r.Intn(5)-2)
	}
	l := make([]byte, n)
	r.Read(l)
	return string(l)
}

// drawnNumber tells how many bytes may be asked for, often about as many as there are.
func drawnNumber(r *rand.Rand, held int) int {
	near := []int{0, held, held / 2, math.MaxInt - 2, math.MinInt + 2}
	return near[r.Intn(len(near))] + r.Intn(5) - 2
}

// step does one drawn call with both, and tells which one it was, and whether it did something.
func step(t *testing.T, r *rand.Rand, b *Buffer, w *words) (string, bool) {
	t.Helper()
	switch call := r.Intn(40); {
	case call == 0:
		is := !w.ended
		checkEnd(t, b, is)
		w.ended = true
		return "End", is
	case call == 1 && r.Intn(3) == 0:
		n := len(w.held)
		checkDrop(t, b, n)
		w.held, w.ended = "", true
		return "Drop", n > 0
	case call < 20:
		s := drawnText(r, w.most-len(w.held))
		is := !w.ended && len(w.held)+len(s) <= w.most
		checkPut(t, b, s, is)
		if is {
			w.held += s
		}
		return "Put", is
	}
	n := drawnNumber(r, len(w.held))
	s := ""
	for len(s) < n && w.held != "" {
		s, w.held = s+w.held[:1], w.held[1:]
	}
	checkGet(t, b, n, s)
	return "Get", s != ""
}

func TestCallsByTheirWordsP1301(t *testing.T) {
	r := rand.New(rand.NewSource(1301))
	did, not := map[string]int{}, map[string]int{}
	for range 4000 {
		w := &words{most: 1 + r.Intn(20)}
		b := made(t, w.most)
		for range 60 {
			call, is := step(t, r, b, w)
			if is {
				did[call]++
			} else {
				not[call]++
			}
			checkTold(t, b, len(w.held), w.ended, w.ended && w.held == "")
		}
	}
	for _, call := range []string{"Put", "End", "Get", "Drop"} {
		if did[call] < 500 || not[call] < 500 {
			t.Errorf("%s: %d times something, %d times nothing: too few to say anything", call, did[call], not[call])
		}
	}
}
