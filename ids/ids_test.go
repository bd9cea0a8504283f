package ids

import (
	"math"
	"math/rand"
	"testing"

	"bywash/api"
)

const top = api.MaxIds

// made tells an Ids that must be there.
func made(t *testing.T, first int) *Ids {
	t.Helper()
	x := New(first)
	if x == nil {
		t.Fatalf("New(%d): nil", first)
	}
	return x
}

// gives holds that the next numbers are these, and that one is left ahead of each.
func gives(t *testing.T, x *Ids, want ...int) {
	t.Helper()
	for _, w := range want {
		left(t, x, true)
		if id, is := x.Next(); id != w || !is {
			t.Fatalf("Next: %d, %v, not %d, true", id, is, w)
		}
	}
}

// ended holds that no number is left, and that none comes any more.
func ended(t *testing.T, x *Ids) {
	t.Helper()
	for range 5 {
		left(t, x, false)
		if id, is := x.Next(); id != 0 || is {
			t.Fatalf("Next: %d, %v, not 0, false", id, is)
		}
	}
	left(t, x, false)
}

// left holds what Left tells against what is wanted.
func left(t *testing.T, x *Ids, want bool) {
	t.Helper()
	if is := x.Left(); is != want {
		t.Fatalf("Left: %v, not %v", is, want)
	}
}

// kinds holds that all these numbers are of that kind.
func kinds(t *testing.T, x *Ids, want int, ids ...int) {
	t.Helper()
	for _, id := range ids {
		if k := x.Kind(id); k != want {
			t.Fatalf("Kind(%d): %d, not %d", id, k, want)
		}
	}
}

// wrongs are numbers that no stream may have.
func wrongs() []int {
	return []int{
		0, -1, -2, -3, -4, -99, -100, -top + 1, -top, -top - 1, -top - 2, -1 << 32, -1<<32 + 1, -1<<32 + 3, math.MinInt, math.MinInt + 1, math.MinInt + 2, math.MinInt + 6,
		2, 4, 6, 98, 100, 1 << 16, 1 << 30, top - 1, top - 3,
		top + 1, top + 2, top + 3, top + 4, 1 << 32, 1<<32 + 1, 1<<32 + 3, 1<<32 + 5, 1<<33 + 1, math.MaxInt - 2, math.MaxInt - 1, math.MaxInt,
	}
}

// rights are numbers that a stream may have, ordered.
func rights() []int {
	return []int{1, 3, 5, 7, 9, 99, 101, 255, 257, 1<<16 - 1, 1<<16 + 1, 1<<30 - 1, 1<<30 + 1, top - 6, top - 4, top - 2, top}
}

func TestExampleP1801(t *testing.T) {
	gives(t, made(t, 1), 1, 3)
}

func TestNewP1801(t *testing.T) {
	for _, first := range wrongs() {
		if New(first) != nil {
			t.Errorf("New(%d): not nil", first)
		}
	}
	for _, first := range rights() {
		x := made(t, first)
		kinds(t, x, 2, first)
		gives(t, x, first)
		kinds(t, x, 1, first)
	}
}

// Each number near both ends may be a first one, or may not, by its being odd.
func TestNewNearTheEndsP1801(t *testing.T) {
	for i := -1000; i <= 1000; i++ {
		odd := i%2 != 0
		if is := New(i) != nil; is != (odd && i > 0) {
			t.Errorf("New(%d): made %v", i, is)
		}
		if is := New(top+i) != nil; is != (!odd && i <= 0) {
			t.Errorf("New(MaxIds%+d): made %v", i, is)
		}
	}
}

func TestNextP1801(t *testing.T) {
	gives(t, made(t, 1), 1, 3, 5, 7, 9, 11)
	gives(t, made(t, 3), 3, 5, 7, 9)
	gives(t, made(t, 1<<30+1), 1<<30+1, 1<<30+3, 1<<30+5)
}

func TestNextManyTimesP1801(t *testing.T) {
	for _, first := range []int{1, 7, 1<<16 - 99, 1<<30 + 1} {
		x := made(t, first)
		for i := range 100000 {
			gives(t, x, first+2*i)
		}
		left(t, x, true)
	}
}

func TestNextAtTheEndP1801(t *testing.T) {
	for _, l := range [][]int{
		{top},
		{top - 2, top},
		{top - 4, top - 2, top},
		{top - 6, top - 4, top - 2, top},
	} {
		x := made(t, l[0])
		gives(t, x, l...)
		ended(t, x)
		kinds(t, x, 1, l...)
		kinds(t, x, 2, l[0]-2, 1, 3)
	}
}

func TestNextManyTimesToTheEndP1801(t *testing.T) {
	first := top - 2*9999
	x := made(t, first)
	for i := range 10000 {
		gives(t, x, first+2*i)
	}
	ended(t, x)
	kinds(t, x, 1, first, first+2, top-2, top)
	kinds(t, x, 2, first-2)
}

func TestLeftP1801(t *testing.T) {
	x := made(t, top-2)
	left(t, x, true)
	x.Next()
	left(t, x, true)
	x.Next()
	left(t, x, false)
	x.Next()
	left(t, x, false)
	x = made(t, top)
	left(t, x, true)
	x.Next()
	left(t, x, false)
	x = made(t, 1)
	left(t, x, true)
	x.Next()
	left(t, x, true)
}

func TestKindAheadOfNextP1801(t *testing.T) {
	for _, first := range rights() {
		x := made(t, first)
		kinds(t, x, 2, rights()...)
		kinds(t, x, 0, wrongs()...)
	}
}

func TestKindP1801(t *testing.T) {
	x := made(t, 7)
	kinds(t, x, 2, 1, 3, 5, 7, 9, 11)
	gives(t, x, 7)
	kinds(t, x, 1, 7)
	kinds(t, x, 2, 1, 3, 5, 9, 11, 13, 99, 1<<30+1, top-2, top)
	kinds(t, x, 0, 6, 8, 10)
	gives(t, x, 9, 11)
	kinds(t, x, 1, 7, 9, 11)
	kinds(t, x, 2, 1, 3, 5, 13, 15, 99, 1<<30+1, top-2, top)
	kinds(t, x, 0, 2, 4, 6, 8, 10, 12, 14)
	kinds(t, x, 0, wrongs()...)
}

// Numbers below the first one were never given.
func TestKindBelowTheFirstP1801(t *testing.T) {
	x := made(t, 1<<16+1)
	for i := range 100 {
		kinds(t, x, 2, 1, 3, 1<<15+1, 1<<16-3, 1<<16-1)
		kinds(t, x, 0, 2, 1<<16, 1<<16-2, 0, -1)
		gives(t, x, 1<<16+1+2*i)
	}
}

func TestKindOfTheGreatestP1801(t *testing.T) {
	x := made(t, top-2)
	kinds(t, x, 2, top-4, top-2, top)
	kinds(t, x, 0, top-3, top-1, top+1, top+2)
	gives(t, x, top-2)
	kinds(t, x, 1, top-2)
	kinds(t, x, 2, top-4, top)
	kinds(t, x, 0, top-3, top-1, top+1, top+2)
	gives(t, x, top)
	kinds(t, x, 1, top-2, top)
	kinds(t, x, 2, top-4)
	kinds(t, x, 0, top-3, top-1, top+1, top+2)
	kinds(t, x, 0, wrongs()...)
	x = made(t, top)
	kinds(t, x, 2, top)
	gives(t, x, top)
	kinds(t, x, 1, top)
	kinds(t, x, 2, top-2, 1)
}

// A Next that tells none changes no number's kind.
func TestKindBehindNextOfNoneP1801(t *testing.T) {
	x := made(t, top-4)
	gives(t, x, top-4, top-2, top)
	for range 5 {
		ended(t, x)
		kinds(t, x, 1, top-4, top-2, top)
		kinds(t, x, 2, 1, 3, top-8, top-6)
		kinds(t, x, 0, wrongs()...)
	}
}

// Near what was given each number is of its own kind.
func TestKindOfEachNumberAroundP1801(t *testing.T) {
	x := made(t, 11)
	for n := range 50 {
		for id := -20; id <= 150; id++ {
			switch {
			case id < 1 || id%2 == 0:
				kinds(t, x, 0, id)
			case id >= 11 && id < 11+2*n:
				kinds(t, x, 1, id)
			default:
				kinds(t, x, 2, id)
			}
		}
		gives(t, x, 11+2*n)
	}
}

// What is asked changes nothing.
func TestAskingChangesNothingP1801(t *testing.T) {
	x := made(t, top-4)
	for _, want := range []int{top - 4, top - 2, top} {
		for _, id := range append(wrongs(), rights()...) {
			x.Kind(id)
			x.Left()
		}
		gives(t, x, want)
	}
	ended(t, x)
}

// idle holds all that one does that New did not make.
func idle(t *testing.T, x *Ids) {
	t.Helper()
	for range 3 {
		ended(t, x)
		kinds(t, x, 0, rights()...)
		kinds(t, x, 0, wrongs()...)
	}
}

func TestNilP1801(t *testing.T) {
	idle(t, nil)
	idle(t, New(2))
}

func TestZeroP1801(t *testing.T) {
	idle(t, new(Ids))
	idle(t, &Ids{})
	var x Ids
	idle(t, &x)
}

func TestTwoSideBySideP1801(t *testing.T) {
	a, b := made(t, 1), made(t, 3)
	gives(t, a, 1, 3, 5)
	kinds(t, b, 2, 1, 3, 5)
	gives(t, b, 3)
	kinds(t, b, 1, 3)
	kinds(t, b, 2, 1, 5)
	gives(t, a, 7)
	gives(t, b, 5, 7, 9)
	kinds(t, a, 1, 1, 3, 5, 7)
	kinds(t, a, 2, 9)
	c, d := made(t, top), made(t, top)
	gives(t, c, top)
	ended(t, c)
	kinds(t, d, 2, top)
	gives(t, d, top)
	gives(t, a, 9)
	gives(t, b, 11)
}

// story is all that has been given, number by number.
type story struct {
	first int
	given []int
}

// next tells by the chapter's words what a Next tells.
func (s *story) next() (int, bool) {
	id := s.first + 2*len(s.given)
	if id > top {
		return 0, false
	}
	s.given = append(s.given, id)
	return id, true
}

// kind tells by the chapter's words of which kind a number is.
func (s *story) kind(id int) int {
	if id < 1 || id > top || id&1 == 0 {
		return 0
	}
	for _, g := range s.given {
		if g == id {
			return 1
		}
	}
	return 2
}

// drawnFirst tells a right first one, often near an end.
func drawnFirst(r *rand.Rand) int {
	switch r.Intn(3) {
	case 0:
		return 1 + 2*r.Intn(10)
	case 1:
		return top - 2*r.Intn(20)
	}
	return 1 + 2*r.Intn(1<<30)
}

// drawnNumber tells a number, most often one near what was given.
func drawnNumber(r *rand.Rand, s *story) int {
	switch r.Intn(8) {
	case 0:
		return wrongs()[r.Intn(len(wrongs()))]
	case 1:
		return rights()[r.Intn(len(rights()))]
	case 2:
		return int(r.Uint64())
	}
	return s.first - 8 + r.Intn(2*len(s.given)+16)
}

func TestIdsByItsWordsP1801(t *testing.T) {
	r := rand.New(rand.NewSource(18))
	var told, none int
	var of [3]int
	for range 3000 {
		s := &story{first: drawnFirst(r)}
		x := made(t, s.first)
		for range 80 {
			if r.Intn(2) == 0 {
				want, is := s.next()
				left(t, x, is)
				if id, got := x.Next(); id != want || got != is {
					t.Fatalf("Next: %d, %v, not %d, %v", id, got, want, is)
				}
				if is {
					told++
				} else {
					none++
				}
			} else {
				id := drawnNumber(r, s)
				want := s.kind(id)
				kinds(t, x, want, id)
				of[want]++
			}
		}
		kinds(t, x, 1, s.given...)
	}
	if min(told, none, of[0], of[1], of[2]) < 5000 {
		t.Errorf("%d told, %d none, kinds %v: too few to say anything", told, none, of)
	}
}

// Of drawn numbers, those that may be a first one are just those that may be a stream's.
func TestNewByItsWordsP1801(t *testing.T) {
	r := rand.New(rand.NewSource(1801))
	for range 100000 {
		id := int(r.Uint64()) >> r.Intn(64)
		want := id >= 1 && id <= top && id&1 == 1
		if is := New(id) != nil; is != want {
			t.Fatalf("New(%d): made %v, not %v", id, is, want)
		}
	}
}
