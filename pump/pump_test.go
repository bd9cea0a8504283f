package pump

import (
	"math"
	"math/rand"
	"slices"
	"testing"
)

// p makes a part that has End, q one without.
func p(id, left, pending int) Part { return Part{Id: id, Left: left, Pending: pending, End: true} }
func q(id, left, pending int) Part { return Part{Id: id, Left: left, Pending: pending} }

// s makes a slice without End, e one that has it.
func s(id, n int) Slice { return Slice{Id: id, N: n} }
func e(id, n int) Slice { return Slice{Id: id, N: n, End: true} }

func parts(l ...Part) []Part   { return l }
func slist(l ...Slice) []Slice { return l }

// plans holds what is planned against what is wanted.
func plans(t *testing.T, left, most int, l []Part, want ...Slice) {
	t.Helper()
	if got := Plan(left, most, l...); !slices.Equal(got, want) {
		t.Errorf("Plan(%d, %d, %+v): %+v, not %+v", left, most, l, got, want)
	}
}

// odds are numbers of 0 and below.
func odds() []int { return []int{0, -1, -64, -1 << 31, math.MinInt + 1, math.MinInt} }

// anyNumbers are numbers of each kind, the greatest and the least ones among them.
func anyNumbers() []int {
	return append(odds(), 1, 2, 63, 64, 100, 1<<31-1, 1<<31, math.MaxInt-1, math.MaxInt)
}

func TestExampleP1601(t *testing.T) {
	plans(t, 100, 64, parts(p(1, 100, 80)), s(1, 64), e(1, 16))
}

func TestPlanOfNoPartP1601(t *testing.T) {
	for _, left := range anyNumbers() {
		for _, most := range anyNumbers() {
			plans(t, left, most, nil)
			plans(t, left, most, []Part{})
		}
	}
}

func TestPlanOfSeveralP1601(t *testing.T) {
	plans(t, 100, 64, parts(p(1, 9, 5), q(3, 9, 6), p(5, 9, 7)), e(1, 5), s(3, 6), e(5, 7))
	plans(t, 100, 4, parts(p(1, 9, 5), q(3, 9, 6), p(5, 9, 7)), s(1, 4), e(1, 1), s(3, 4), s(3, 2), s(5, 4), e(5, 3))
	plans(t, 100, 64, parts(p(1, 9, 0), p(3, 0, 6), q(5, 9, 7), p(7, 9, 0), p(9, -1, 0)), e(1, 0), s(5, 7), e(7, 0), e(9, 0))
}

func TestPlanGoesByOrderAndNotByIdP1601(t *testing.T) {
	plans(t, 10, 64, parts(p(9, 9, 4), p(-2, 9, 4), p(0, 9, 4), p(5, 9, 4)), e(9, 4), e(-2, 4), s(0, 2))
	plans(t, 9, 64, parts(p(math.MaxInt, 9, 1), p(math.MinInt, 9, 1)), e(math.MaxInt, 1), e(math.MinInt, 1))
}

func TestPlanOfTwoWithOneIdP1601(t *testing.T) {
	plans(t, 100, 64, parts(p(1, 5, 5), p(1, 5, 5)), e(1, 5), e(1, 5))
	plans(t, 100, 64, parts(q(1, 5, 9), p(1, 7, 6)), s(1, 5), e(1, 6))
	plans(t, 8, 64, parts(p(1, 5, 5), p(1, 5, 5)), e(1, 5), s(1, 3))
	plans(t, 8, 64, parts(p(1, 5, 0), q(1, 5, 0), p(1, 5, 0)), e(1, 0), e(1, 0))
	plans(t, 8, 64, parts(p(1, 5, 2), p(1, 5, 0)), e(1, 2), e(1, 0))
}

func TestPlanOfEachLeastP1601(t *testing.T) {
	plans(t, 8, 9, parts(p(1, 7, 6)), e(1, 6))                       // Pending
	plans(t, 8, 9, parts(p(1, 6, 7)), s(1, 6))                       // Left
	plans(t, 6, 9, parts(p(1, 8, 7)), s(1, 6))                       // left
	plans(t, 8, 3, parts(p(1, 9, 7)), s(1, 3), s(1, 3), e(1, 1))     // most, and Pending behind it
	plans(t, 8, 3, parts(p(1, 7, 9)), s(1, 3), s(1, 3), s(1, 1))     // Left behind it
	plans(t, 7, 3, parts(p(1, 8, 9)), s(1, 3), s(1, 3), s(1, 1))     // left behind it
	plans(t, 800, 3, parts(p(1, 800, 9)), s(1, 3), s(1, 3), e(1, 3)) // most alone
}

func TestPlanOfSeveralLeastsP1601(t *testing.T) {
	plans(t, 6, 6, parts(p(1, 6, 6)), e(1, 6))
	plans(t, 9, 9, parts(p(1, 6, 6)), e(1, 6))
	plans(t, 6, 9, parts(p(1, 9, 6)), e(1, 6))
	plans(t, 9, 6, parts(p(1, 9, 6)), e(1, 6))
	plans(t, 6, 9, parts(p(1, 6, 9)), s(1, 6))
	plans(t, 9, 6, parts(p(1, 6, 9)), s(1, 6))
	plans(t, 6, 6, parts(p(1, 9, 9)), s(1, 6))
	plans(t, 6, 6, parts(p(1, 9, 6)), e(1, 6))
	plans(t, 6, 6, parts(p(1, 6, 9)), s(1, 6))
	plans(t, 6, 9, parts(p(1, 6, 6)), e(1, 6))
	plans(t, 9, 6, parts(p(1, 6, 6)), e(1, 6))
}

func TestPlanOfWhatThePartsAheadLeaveP1601(t *testing.T) {
	l := parts(p(1, 9, 5), p(3, 9, 5), p(5, 9, 5))
	plans(t, 15, 64, l, e(1, 5), e(3, 5), e(5, 5))
	plans(t, 14, 64, l, e(1, 5), e(3, 5), s(5, 4))
	plans(t, 11, 64, l, e(1, 5), e(3, 5), s(5, 1))
	plans(t, 10, 64, l, e(1, 5), e(3, 5))
	plans(t, 9, 64, l, e(1, 5), s(3, 4))
	plans(t, 5, 64, l, e(1, 5))
	plans(t, 4, 64, l, s(1, 4))
	plans(t, 0, 64, l)
	plans(t, 9, 3, l, s(1, 3), e(1, 2), s(3, 3), s(3, 1))
	plans(t, 5, 64, parts(p(1, 9, 5), p(3, 9, 5), p(5, 9, 0)), e(1, 5), e(5, 0))
}

func TestPlanOfPartsThatTakeNothingOfLeftP1601(t *testing.T) {
	for _, no := range parts(p(1, 0, 9), q(1, -9, 9), p(1, 9, -9), q(1, 9, -9), q(1, 9, 0), p(1, -9, -9)) {
		plans(t, 5, 64, parts(no, p(3, 9, 9), no), s(3, 5))
		plans(t, 9, 64, parts(no, p(3, 9, 9)), e(3, 9))
	}
	plans(t, 5, 64, parts(p(1, 9, 0), p(3, 2, 9), p(5, 9, 9)), e(1, 0), s(3, 2), s(5, 3))
}

func TestPlanOfJustMostP1601(t *testing.T) {
	plans(t, 900, 64, parts(p(1, 900, 63)), e(1, 63))
	plans(t, 900, 64, parts(p(1, 900, 64)), e(1, 64))
	plans(t, 900, 64, parts(p(1, 900, 65)), s(1, 64), e(1, 1))
	plans(t, 900, 64, parts(p(1, 900, 127)), s(1, 64), e(1, 63))
	plans(t, 900, 64, parts(p(1, 900, 128)), s(1, 64), e(1, 64))
	plans(t, 900, 64, parts(p(1, 900, 129)), s(1, 64), s(1, 64), e(1, 1))
	plans(t, 900, 64, parts(q(1, 900, 128)), s(1, 64), s(1, 64))
	plans(t, 128, 64, parts(p(1, 900, 900)), s(1, 64), s(1, 64))
	plans(t, 900, 64, parts(p(1, 128, 900)), s(1, 64), s(1, 64))
}

func TestPlanOfMostOneP1601(t *testing.T) {
	plans(t, 9, 1, parts(p(1, 9, 1)), e(1, 1))
	plans(t, 9, 1, parts(p(1, 9, 3), q(3, 9, 2), p(5, 1, 2)), s(1, 1), s(1, 1), e(1, 1), s(3, 1), s(3, 1), s(5, 1))
	plans(t, 2, 1, parts(p(1, 9, 3)), s(1, 1), s(1, 1))
	plans(t, 1, 1, parts(p(1, 1, 1), p(3, 1, 1)), e(1, 1))
	plans(t, 9, 1, parts(p(1, 9, 0)), e(1, 0))
}

func TestPlanOfEndP1601(t *testing.T) {
	plans(t, 99, 64, parts(p(1, 99, 20)), e(1, 20))
	plans(t, 99, 9, parts(p(1, 99, 20)), s(1, 9), s(1, 9), e(1, 2))
	plans(t, 20, 10, parts(p(1, 20, 20)), s(1, 10), e(1, 10))
	plans(t, 19, 10, parts(p(1, 20, 20)), s(1, 10), s(1, 9))
	plans(t, 20, 10, parts(p(1, 19, 20)), s(1, 10), s(1, 9))
	plans(t, 10, 10, parts(p(1, 20, 20)), s(1, 10))
	plans(t, 99, 64, parts(q(1, 99, 20)), s(1, 20))
	plans(t, 99, 9, parts(q(1, 99, 20)), s(1, 9), s(1, 9), s(1, 2))
	plans(t, 99, 64, parts(q(1, 99, 20), p(3, 99, 20), q(5, 99, 20)), s(1, 20), e(3, 20), s(5, 20))
}

func TestPlanOfNothingPendingP1601(t *testing.T) {
	for _, left := range anyNumbers() {
		for _, most := range anyNumbers() {
			for _, window := range anyNumbers() {
				plans(t, left, most, parts(p(7, window, 0)), e(7, 0))
				plans(t, left, most, parts(q(7, window, 0)))
				plans(t, left, most, parts(q(3, window, 0), p(5, window, 0), q(7, window, 0), p(9, window, 0)), e(5, 0), e(9, 0))
			}
		}
	}
}

func TestPlanOfPendingBelowZeroP1601(t *testing.T) {
	for _, pending := range odds()[1:] {
		for _, left := range anyNumbers() {
			for _, most := range anyNumbers() {
				plans(t, left, most, parts(p(7, left, pending), q(7, left, pending)))
				plans(t, left, most, parts(p(7, most, pending), p(9, most, 0)), e(9, 0))
			}
		}
	}
}

func TestPlanOfNoRoomP1601(t *testing.T) {
	for _, no := range odds() {
		for _, n := range []int{1, 9, 1 << 31, math.MaxInt} {
			for _, l := range [][]Part{parts(p(1, 9, n)), parts(q(1, 9, n)), parts(p(1, math.MaxInt, n), q(3, 9, n))} {
				plans(t, no, 1<<61, l)
				plans(t, math.MaxInt, no, l)
				plans(t, no, no, l)
			}
			plans(t, 100, 64, parts(p(1, no, n), q(3, no, n)))
			plans(t, no, no, parts(p(1, no, n), p(3, no, 0)), e(3, 0))
		}
	}
}

func TestPlanOfTheGreatestP1601(t *testing.T) {
	const most = math.MaxInt
	plans(t, most, most, parts(p(1, most, most)), e(1, most))
	plans(t, most, most, parts(p(1, most, most), p(3, 1, 1), p(5, most, 0)), e(1, most), e(5, 0))
	plans(t, most, most, parts(p(1, most, most-1), p(3, 9, 9)), e(1, most-1), s(3, 1))
	plans(t, most, most-1, parts(p(1, most, most)), s(1, most-1), e(1, 1))
	plans(t, most, most/2, parts(q(1, most, most)), s(1, most/2), s(1, most/2), s(1, 1))
	plans(t, most, most, parts(p(1, most, 7)), e(1, 7))
	plans(t, 99, most/2, parts(p(1, 7, most)), s(1, 7))
	plans(t, 7, most/2, parts(p(1, 99, most)), s(1, 7))
}

func TestSumP1601(t *testing.T) {
	for _, x := range []struct {
		l    []Slice
		want int
	}{
		{nil, 0},
		{slist(), 0},
		{slist(s(1, 5)), 5},
		{slist(e(1, 5)), 5},
		{slist(e(1, 0)), 0},
		{slist(e(1, 0), s(3, 0)), 0},
		{slist(s(1, 64), e(1, 16)), 80},
		{slist(s(1, 5), e(2, 0), e(1, 7)), 12},
		{slist(e(900, 0), s(700, 1), s(500, 10), e(500, 100), s(0, 0)), 111},
		{slist(s(1, 10), s(1, -3)), 7},
		{slist(s(1, -10), s(1, 3)), -7},
		{slist(s(1, math.MaxInt)), math.MaxInt},
		{slist(s(1, math.MaxInt-1), s(1, 1), e(1, 0)), math.MaxInt},
		{slist(s(1, 1<<31), s(1, 1<<31)), 1 << 32},
		{slist(s(1, math.MinInt)), math.MinInt},
	} {
		if got := Sum(x.l...); got != x.want {
			t.Errorf("Sum(%+v): %d, not %d", x.l, got, x.want)
		}
	}
}

func TestWhatIsHandedInStaysP1601(t *testing.T) {
	l := parts(p(1, 100, 80), q(3, 9, 9), p(5, 9, 0), p(7, 50, 50))
	was := slices.Clone(l)
	Plan(100, 8, l...)
	if !slices.Equal(l, was) {
		t.Errorf("the parts became %+v", l)
	}
	told := Plan(100, 8, l...)
	behind := slices.Clone(told)
	Sum(told...)
	if !slices.Equal(told, behind) {
		t.Errorf("the slices became %+v", told)
	}
}

func TestWhatIsBehindWhatIsHandedInStaysP1601(t *testing.T) {
	all := parts(p(1, 9, 9), p(3, 9, 9), p(5, 9, 9))
	was := slices.Clone(all)
	plans(t, 100, 4, all[:1], s(1, 4), s(1, 4), e(1, 1))
	if !slices.Equal(all, was) {
		t.Errorf("the parts became %+v", all)
	}
}

func TestAnswersAreTheirOwnP1601(t *testing.T) {
	l := parts(p(1, 100, 20), p(3, 100, 0))
	first := Plan(100, 8, l...)
	was := slices.Clone(first)
	l[0] = q(9, 1, 1)
	if !slices.Equal(first, was) {
		t.Errorf("with the parts an answer became %+v", first)
	}
	l[0] = p(1, 100, 20)
	second := Plan(100, 8, l...)
	for i := range second {
		second[i] = Slice{Id: -1, N: -1}
	}
	_ = append(second[:0], s(7, 7))
	if !slices.Equal(first, was) {
		t.Errorf("with another answer an answer became %+v", first)
	}
	plans(t, 100, 8, l, was...)
	plans(t, 5, 2, parts(q(8, 8, 8)), s(8, 2), s(8, 2), s(8, 1))
	if !slices.Equal(first, was) {
		t.Errorf("by a later call an answer became %+v", first)
	}
}

// byWords tells what goes by the chapter's words, by how much goes of a part in all, and not slice by slice.
func byWords(left, most int, l []Part) []Slice {
	var told []Slice
	for _, x := range l {
		goes := 0
		if x.Pending > 0 && x.Left > 0 && left > 0 && most > 0 {
			goes = min(x.Pending, x.Left, left)
		}
		left -= goes
		for range goes / max(most, 1) {
			told = append(told, s(x.Id, most))
		}
		if more := goes % max(most, 1); more > 0 {
			told = append(told, s(x.Id, more))
		}
		switch {
		case x.End && x.Pending == 0:
			told = append(told, e(x.Id, 0))
		case x.End && goes > 0 && goes == x.Pending:
			told[len(told)-1].End = true
		}
	}
	return told
}

// drawn tells a number, most often a small one above 0.
func drawn(r *rand.Rand, most int) int {
	switch r.Intn(12) {
	case 0:
		return 0
	case 1:
		return -r.Intn(most) - 1
	case 2:
		return most
	}
	return r.Intn(most) + 1
}

// drawnParts tells some parts, often with one Id, and often with as much Left as is Pending.
func drawnParts(r *rand.Rand) []Part {
	l := make([]Part, r.Intn(6))
	for i := range l {
		l[i] = Part{Id: r.Intn(5), Left: drawn(r, 30), Pending: drawn(r, 30), End: r.Intn(2) == 0}
		if r.Intn(4) == 0 {
			l[i].Left = l[i].Pending + r.Intn(3) - 1
		}
	}
	return l
}

func TestPlanByItsWordsP1601(t *testing.T) {
	r := rand.New(rand.NewSource(16))
	var none, several, ends, bare int
	for range 100000 {
		left, most, l := drawn(r, 100), drawn(r, 12), drawnParts(r)
		want := byWords(left, most, l)
		plans(t, left, most, l, want...)
		sum := 0
		for _, x := range want {
			sum += x.N
			if x.End && x.N == 0 {
				bare++
			} else if x.End {
				ends++
			}
		}
		if got := Sum(want...); got != sum || got > max(left, 0) {
			t.Errorf("Sum(%+v): %d of %d", want, got, left)
		}
		switch len(want) {
		case 0:
			none++
		case 1:
		default:
			several++
		}
	}
	if min(none, several, ends, bare) < 1000 {
		t.Errorf("%d times none, %d several, %d ends, %d without bytes: too few to say anything", none, several, ends, bare)
	}
}

// Each part is taken away with its End, so that what goes behind it shows.
func TestWhatGoesInTurnsP1601(t *testing.T) {
	r := rand.New(rand.NewSource(17))
	for range 500 {
		l, want := make([]Part, 1+r.Intn(4)), 0
		for i := range l {
			l[i] = p(2*i+1, 0, r.Intn(40))
			want += l[i].Pending
		}
		sent := 0
		for turn := 0; len(l) > 0; turn++ {
			if turn > 10000 {
				t.Fatalf("%+v are there still", l)
			}
			for i := range l {
				l[i].Left += r.Intn(5)
			}
			for _, x := range Plan(r.Intn(20), 1+r.Intn(6), l...) {
				i := slices.IndexFunc(l, func(y Part) bool { return y.Id == x.Id })
				if i < 0 {
					t.Fatalf("%+v goes behind the end", x)
				}
				sent, l[i].Left, l[i].Pending = sent+x.N, l[i].Left-x.N, l[i].Pending-x.N
				if l[i].Left < 0 || l[i].Pending < 0 || x.End != (l[i].Pending == 0) {
					t.Fatalf("%+v makes it %+v", x, l[i])
				}
				if x.End {
					l = slices.Delete(l, i, i+1)
				}
			}
		}
		if sent != want {
			t.Errorf("%d bytes went of %d", sent, want)
		}
	}
}
