package window

import (
	"math"
	"math/rand"
	"testing"

	"bywash/api"
)

const most = api.MaxWindow

// change is a call that tells another window, or false and the one it was handed.
type change func(Window, int) (Window, bool)

// odd is a window of which each number differs from the others and from all limits, so that one that is lost shows.
func odd() Window { return Window{Left: 10, Size: 20, Owed: 3} }

// win makes a window of these numbers, whether a call makes such a one or not.
func win(left, size, owed int) Window { return Window{Left: left, Size: size, Owed: owed} }

// does holds that a change of w is told, and is want.
func does(t *testing.T, f change, w Window, n int, want Window) {
	t.Helper()
	if got, is := f(w, n); got != want || !is {
		t.Errorf("%+v by %d: %+v, %v, not %+v, true", w, n, got, is, want)
	}
}

// refuses holds that a change of w is false, and w as it was beside it.
func refuses(t *testing.T, f change, w Window, n int) {
	t.Helper()
	if got, is := f(w, n); got != w || is {
		t.Errorf("%+v by %d: %+v, %v, not as it was, false", w, n, got, is)
	}
}

// credits holds what Credit tells against what is wanted.
func credits(t *testing.T, w Window, n int, want Window, told int) {
	t.Helper()
	if got, so := Credit(w, n); got != want || so != told {
		t.Errorf("Credit(%+v, %d): %+v, %d, not %+v, %d", w, n, got, so, want, told)
	}
}

func TestNewP1201(t *testing.T) {
	for _, size := range []int{0, 1, 100, 65535, most - 1, most} {
		if w, is := New(size); w != win(size, size, 0) || !is {
			t.Errorf("New(%d): %+v, %v", size, w, is)
		}
	}
	for _, size := range []int{math.MinInt, -most, -1, most + 1, 1 << 32, math.MaxInt} {
		if w, is := New(size); w != (Window{}) || is {
			t.Errorf("New(%d): %+v, %v, not nothing, false", size, w, is)
		}
	}
}

// takes holds what Take and Spend have in common.
func takes(t *testing.T, f change) {
	t.Helper()
	does(t, f, odd(), 0, odd())
	does(t, f, odd(), 1, win(9, 20, 3))
	does(t, f, odd(), 9, win(1, 20, 3))
	does(t, f, odd(), 10, win(0, 20, 3))
	for _, n := range []int{math.MinInt, -10, -1, 11, 20, most, math.MaxInt} {
		refuses(t, f, odd(), n)
	}
	does(t, f, win(0, 20, 3), 0, win(0, 20, 3))
	refuses(t, f, win(0, 20, 3), 1)
	does(t, f, win(most, most, 0), most, win(0, most, 0))
	refuses(t, f, win(most, most, 0), most+1)
}

// takesNoneBelowNothing holds that nothing is taken of what is below 0, not even 0 bytes.
func takesNoneBelowNothing(t *testing.T, f change) {
	t.Helper()
	for _, left := range []int{-1, -7, -most, math.MinInt} {
		for _, n := range []int{math.MinInt, left, -1, 0, 1, 7, math.MaxInt} {
			refuses(t, f, win(left, 20, 3), n)
		}
	}
}

// takesOfRawOnes holds that Left alone counts, whatever the other numbers are.
func takesOfRawOnes(t *testing.T, f change) {
	t.Helper()
	does(t, f, win(5, -8, -3), 5, win(0, -8, -3))
	refuses(t, f, win(5, 100, 100), 6)
	does(t, f, win(50, 0, 0), 50, win(0, 0, 0))
	does(t, f, win(math.MaxInt, 0, math.MaxInt), math.MaxInt, win(0, 0, math.MaxInt))
	does(t, f, win(math.MaxInt, math.MinInt, math.MinInt), most+1, win(math.MaxInt-most-1, math.MinInt, math.MinInt))
}

func TestTakeP1201(t *testing.T)                 { takes(t, Take) }
func TestTakeOfALeftBelowZeroP1201(t *testing.T) { takesNoneBelowNothing(t, Take) }
func TestTakeOfRawWindowsP1201(t *testing.T)     { takesOfRawOnes(t, Take) }

func TestGrowP1201(t *testing.T) {
	does(t, Grow, odd(), 1, win(11, 20, 3))
	does(t, Grow, odd(), 100, win(110, 20, 3))
	does(t, Grow, odd(), most-11, win(most-1, 20, 3))
	does(t, Grow, odd(), most-10, win(most, 20, 3))
	for _, n := range []int{math.MinInt, -most, -1, 0, most - 9, most, most + 1, math.MaxInt} {
		refuses(t, Grow, odd(), n)
	}
}

func TestGrowAtTheEdgesP1201(t *testing.T) {
	does(t, Grow, win(0, 20, 3), most, win(most, 20, 3))
	refuses(t, Grow, win(0, 20, 3), most+1)
	refuses(t, Grow, win(1, 20, 3), most)
	does(t, Grow, win(most-1, most, 0), 1, win(most, most, 0))
	refuses(t, Grow, win(most-1, most, 0), 2)
	refuses(t, Grow, win(most, most, 0), 1)
	refuses(t, Grow, win(most, most, 0), 0)
}

func TestGrowOfALeftBelowZeroP1201(t *testing.T) {
	does(t, Grow, win(-50, 0, 0), 1, win(-49, 0, 0))
	does(t, Grow, win(-50, 0, 0), 50, win(0, 0, 0))
	does(t, Grow, win(-50, 0, 0), most, win(most-50, 0, 0))
	refuses(t, Grow, win(-50, 0, 0), most+1)
	refuses(t, Grow, win(-50, 0, 0), most+50)
	refuses(t, Grow, win(-50, 0, 0), 0)
	refuses(t, Grow, win(-50, 0, 0), -1)
}

func TestGrowOfRawWindowsP1201(t *testing.T) {
	does(t, Grow, win(5, -8, -3), 7, win(12, -8, -3))
	does(t, Grow, win(math.MinInt, math.MaxInt, math.MaxInt), most, win(math.MinInt+most, math.MaxInt, math.MaxInt))
	refuses(t, Grow, win(most+1, 20, 3), 1)
	refuses(t, Grow, win(most+1, 20, 3), -1)
	refuses(t, Grow, win(math.MaxInt-most, 20, 3), most)
}

func TestShiftP1201(t *testing.T) {
	does(t, Shift, odd(), 0, odd())
	does(t, Shift, odd(), 1, win(11, 21, 3))
	does(t, Shift, odd(), -1, win(9, 19, 3))
	does(t, Shift, odd(), 80, win(90, 100, 3))
}

func TestShiftToALeftBelowZeroP1201(t *testing.T) {
	does(t, Shift, odd(), -10, win(0, 10, 3))
	does(t, Shift, odd(), -11, win(-1, 9, 3))
	does(t, Shift, odd(), -20, win(-10, 0, 3))
	does(t, Shift, win(-10, 20, 3), -20, win(-30, 0, 3))
	does(t, Shift, win(-10, 20, 3), 5, win(-5, 25, 3))
	does(t, Shift, win(-10, 20, 3), 15, win(5, 35, 3))
	does(t, Shift, win(0, most, 0), -most, win(-most, 0, 0))
}

func TestShiftToASizeThatMayNotBeP1201(t *testing.T) {
	for _, by := range []int{-most, -21, most - 19, most, most + 1} {
		refuses(t, Shift, odd(), by)
	}
	does(t, Shift, win(0, 0, 3), 0, win(0, 0, 3))
	refuses(t, Shift, win(0, 0, 3), -1)
	does(t, Shift, win(0, 0, 3), most, win(most, most, 3))
	refuses(t, Shift, win(0, 0, 3), most+1)
	does(t, Shift, odd(), most-20, win(most-10, most, 3))
	does(t, Shift, win(20, 20, 3), most-20, win(most, most, 3))
	does(t, Shift, win(most, most, 0), 0, win(most, most, 0))
	does(t, Shift, win(most, most, 0), -most, win(0, 0, 0))
	refuses(t, Shift, win(most, most, 0), 1)
	refuses(t, Shift, win(most, most, 0), -most-1)
}

func TestShiftToALeftThatMayNotBeP1201(t *testing.T) {
	does(t, Shift, win(most-1, 5, 3), 1, win(most, 6, 3))
	refuses(t, Shift, win(most-1, 5, 3), 2)
	refuses(t, Shift, win(most, 5, 3), 1)
	does(t, Shift, win(most, 5, 3), 0, win(most, 5, 3))
	does(t, Shift, win(most, 5, 3), -5, win(most-5, 0, 3))
	refuses(t, Shift, win(most, 5, 3), -6)
	refuses(t, Shift, win(30, 20, 3), most-20)
	does(t, Shift, win(30, 20, 3), most-30, win(most, most-10, 3))
}

func TestShiftOfRawWindowsP1201(t *testing.T) {
	refuses(t, Shift, win(most+1, 20, 3), 0)
	refuses(t, Shift, win(most+5, 20, 3), -4)
	does(t, Shift, win(most+5, 20, -3), -5, win(most, 15, -3))
	refuses(t, Shift, win(0, -8, 3), 0)
	refuses(t, Shift, win(0, -8, 3), 7)
	does(t, Shift, win(0, -8, 3), 8, win(8, 0, 3))
	refuses(t, Shift, win(0, most+1, 3), 0)
	does(t, Shift, win(0, most+1, 3), -1, win(-1, most, 3))
	does(t, Shift, win(math.MinInt, 0, math.MinInt), 7, win(math.MinInt+7, 7, math.MinInt))
	refuses(t, Shift, win(0, 0, 3), math.MinInt)
	refuses(t, Shift, win(0, 0, 3), math.MaxInt)
	does(t, Shift, win(most, math.MaxInt, 0), most-math.MaxInt, win(2*most-math.MaxInt, most, 0))
}

func TestSpendP1202(t *testing.T)                 { takes(t, Spend) }
func TestSpendOfALeftBelowZeroP1202(t *testing.T) { takesNoneBelowNothing(t, Spend) }
func TestSpendOfRawWindowsP1202(t *testing.T)     { takesOfRawOnes(t, Spend) }

func TestCreditP1202(t *testing.T) {
	w := win(40, 100, 0)
	credits(t, w, 1, win(40, 100, 1), 0)
	credits(t, w, 49, win(40, 100, 49), 0)
	credits(t, w, 50, win(90, 100, 0), 50)
	credits(t, w, 51, win(91, 100, 0), 51)
	credits(t, w, 60, win(100, 100, 0), 60)
	credits(t, w, 500, win(540, 100, 0), 500)
}

func TestCreditOfNothingP1202(t *testing.T) {
	for _, n := range []int{math.MinInt, -1000, -50, -1, 0} {
		credits(t, win(40, 100, 0), n, win(40, 100, 0), 0)
		credits(t, win(40, 100, 49), n, win(40, 100, 49), 0)
		credits(t, win(40, 100, 50), n, win(90, 100, 0), 50)
		credits(t, win(0, 10, 7), n, win(7, 10, 0), 7)
	}
}

func TestCreditOfWhatIsOwedP1202(t *testing.T) {
	credits(t, win(40, 100, 40), 9, win(40, 100, 49), 0)
	credits(t, win(40, 100, 40), 10, win(90, 100, 0), 50)
	credits(t, win(40, 100, 40), 11, win(91, 100, 0), 51)
	credits(t, win(40, 100, 49), 1, win(90, 100, 0), 50)
	credits(t, win(-40, 100, 49), 1, win(10, 100, 0), 50)
	credits(t, win(-70, 100, 49), 1, win(-20, 100, 0), 50)
}

func TestCreditOfSizesP1202(t *testing.T) {
	for _, x := range []struct{ size, half int }{
		{0, 1}, {1, 1}, {2, 1}, {3, 1}, {4, 2}, {5, 2}, {6, 3}, {7, 3}, {99, 49}, {100, 50}, {101, 50},
		{most - 1, 1<<30 - 1}, {most, 1<<30 - 1},
	} {
		credits(t, win(4, x.size, 0), 0, win(4, x.size, 0), 0)
		credits(t, win(4, x.size, 0), x.half-1, win(4, x.size, x.half-1), 0)
		credits(t, win(4, x.size, 0), x.half, win(4+x.half, x.size, 0), x.half)
		credits(t, win(4, x.size, 0), x.half+1, win(5+x.half, x.size, 0), x.half+1)
		credits(t, win(4, x.size, x.half-1), 0, win(4, x.size, x.half-1), 0)
		credits(t, win(4, x.size, x.half-1), 1, win(4+x.half, x.size, 0), x.half)
	}
}

func TestCreditOfRawWindowsP1202(t *testing.T) {
	credits(t, win(-3, -8, 0), 0, win(-3, -8, 0), 0)
	credits(t, win(-3, -8, 0), 1, win(-2, -8, 0), 1)
	credits(t, win(-3, -1, 0), 0, win(-3, -1, 0), 0)
	credits(t, win(5, math.MinInt, 0), 2, win(7, math.MinInt, 0), 2)
	credits(t, win(5, 10, -20), 20, win(5, 10, 0), 0)
	credits(t, win(5, 10, -20), 24, win(5, 10, 4), 0)
	credits(t, win(5, 10, -20), 25, win(10, 10, 0), 5)
	credits(t, win(5, -8, -20), 20, win(5, -8, 0), 0)
	credits(t, win(5, -8, -20), 3, win(5, -8, -17), 0)
	credits(t, win(5, -8, -20), -3, win(5, -8, -20), 0)
	credits(t, win(most, 10, 0), 5, win(most+5, 10, 0), 5)
	credits(t, win(0, 10, 0), math.MaxInt, win(math.MaxInt, 10, 0), math.MaxInt)
	credits(t, win(0, math.MaxInt, 0), math.MaxInt/2-1, win(0, math.MaxInt, math.MaxInt/2-1), 0)
	credits(t, win(0, math.MaxInt, 0), math.MaxInt/2, win(math.MaxInt/2, math.MaxInt, 0), math.MaxInt/2)
	credits(t, win(math.MinInt, 0, math.MaxInt), 0, win(-1, 0, 0), math.MaxInt)
}

func TestCreditTwiceTellsAllAtLastP1202(t *testing.T) {
	w, _ := New(100)
	w, is := Spend(w, 60)
	if w != win(40, 100, 0) || !is {
		t.Fatalf("Spend of 60 of 100: %+v, %v", w, is)
	}
	w, told := Credit(w, 40)
	if w != win(40, 100, 40) || told != 0 {
		t.Errorf("Credit of 40: %+v, %d", w, told)
	}
	w, told = Credit(w, 20)
	if w != win(100, 100, 0) || told != 60 {
		t.Errorf("Credit of 20 more: %+v, %d", w, told)
	}
}

// drawn tells a number near one of those that matter.
func drawn(r *rand.Rand) int {
	near := []int{0, 0, 10, 100, -100, most, most / 2, -most}
	return near[r.Intn(len(near))] + r.Intn(9) - 4
}

// byWords tells a change by the chapter's words: which call it is, and whether it may be.
func byWords(call int, w Window, n int) (Window, bool) {
	x, is := w, false
	switch call {
	case 0, 1: // Take, Spend
		x.Left, is = w.Left-n, !(n < 0 || n > w.Left)
	case 2: // Grow
		x.Left, is = w.Left+n, !(n < 1 || n > most || w.Left+n > most)
	case 3: // Shift
		x.Left, x.Size = w.Left+n, w.Size+n
		is = !(x.Size < 0 || x.Size > most || x.Left > most)
	}
	if !is {
		return w, false
	}
	return x, true
}

func TestChangesByTheirWordsP1201(t *testing.T) {
	r := rand.New(rand.NewSource(12))
	calls := []change{Take, Spend, Grow, Shift}
	var told, refused [4]int
	for range 200000 {
		w, n, call := win(drawn(r), drawn(r), drawn(r)), drawn(r), r.Intn(len(calls))
		if x, is := byWords(call, w, n); is {
			told[call]++
			does(t, calls[call], w, n, x)
		} else {
			refused[call]++
			refuses(t, calls[call], w, n)
		}
	}
	for i := range calls {
		if told[i] < 1000 || refused[i] < 1000 {
			t.Errorf("call %d: told %d times, refused %d times: too few to say anything", i, told[i], refused[i])
		}
	}
}

func TestCreditByItsWordsP1202(t *testing.T) {
	r := rand.New(rand.NewSource(13))
	var told, none int
	for range 200000 {
		w, n := win(drawn(r), drawn(r), drawn(r)), drawn(r)
		x, so := w, 0
		if n >= 1 {
			x.Owed += n
		}
		half := 1 // the greatest number of which two are no more than Size, or 1
		if w.Size >= 2 {
			half = (w.Size - w.Size%2) / 2
		}
		if x.Owed >= half {
			x, so = win(w.Left+x.Owed, w.Size, 0), x.Owed
			told++
		} else {
			none++
		}
		credits(t, w, n, x, so)
	}
	if told < 1000 || none < 1000 {
		t.Errorf("told %d times, %d times none: too few to say anything", told, none)
	}
}

func TestWhatIsSpentComesBackP1202(t *testing.T) {
	r := rand.New(rand.NewSource(14))
	for range 200 {
		size := r.Intn(200)
		w, _ := New(size)
		unread := 0
		for range 200 {
			if n := r.Intn(size + 1); r.Intn(2) == 0 {
				if x, is := Spend(w, n); is {
					w, unread = x, unread+n
				}
			} else {
				n = r.Intn(unread + 1)
				w, _ = Credit(w, n)
				unread -= n
			}
			if w.Left+w.Owed+unread != size || w.Owed < 0 || w.Owed >= max(size/2, 1) {
				t.Fatalf("of %d: %+v with %d unread", size, w, unread)
			}
		}
	}
}
