package queue

import (
	"math"
	"slices"
	"testing"

	"bywash/api"
)

// made tells a queue that must be there, with these in it.
func made(t *testing.T, most int, ids ...int) *Queue {
	t.Helper()
	q := New(most)
	if q == nil {
		t.Fatalf("New(%d): nil", most)
	}
	holds(t, q)
	for _, id := range ids {
		put(t, q, id, api.OK)
	}
	holds(t, q, ids...)
	return q
}

// put holds what Put tells against what is wanted.
func put(t *testing.T, q *Queue, id int, want api.Errno) {
	t.Helper()
	if e := q.Put(id); e != want {
		t.Fatalf("Put(%d): %d, not %d", id, e, want)
	}
}

// back holds what Back tells against what is wanted.
func back(t *testing.T, q *Queue, id int, want api.Errno) {
	t.Helper()
	if e := q.Back(id); e != want {
		t.Fatalf("Back(%d): %d, not %d", id, e, want)
	}
}

// firsts holds that the first ones are these.
func firsts(t *testing.T, q *Queue, ids ...int) {
	t.Helper()
	for _, id := range ids {
		if got, is := q.First(); got != id || !is {
			t.Fatalf("First: %d, %v, not %d, true", got, is, id)
		}
	}
}

// none holds that there is no first one.
func none(t *testing.T, q *Queue) {
	t.Helper()
	for range 3 {
		if got, is := q.First(); got != 0 || is {
			t.Fatalf("First of none: %d, %v, not 0, false", got, is)
		}
	}
	holds(t, q)
}

// cut holds what Cut tells against what is wanted.
func cut(t *testing.T, q *Queue, id int, want bool) {
	t.Helper()
	if is := q.Cut(id); is != want {
		t.Fatalf("Cut(%d): %v, not %v", id, is, want)
	}
}

// away holds that these are not there.
func away(t *testing.T, q *Queue, ids ...int) {
	t.Helper()
	for _, id := range ids {
		if n := q.Place(id); n != -1 {
			t.Fatalf("Place(%d): %d, not -1", id, n)
		}
	}
}

// holds holds that just these are there, in that order, each at its place.
func holds(t *testing.T, q *Queue, ids ...int) {
	t.Helper()
	if l := q.All(); !slices.Equal(l, ids) {
		t.Fatalf("All: %v, not %v", l, ids)
	}
	for i, id := range ids {
		if n := q.Place(id); n != i {
			t.Fatalf("Place(%d): %d, not %d", id, n, i)
		}
	}
}

// numbers are ids of all kinds: none is ruled out.
func numbers() []int {
	return []int{0, 1, -1, 2, -2, 99, -99, api.MaxIds, -api.MaxIds, 1 << 32, 1<<32 + 1, -1 << 32, math.MaxInt, math.MaxInt - 1, math.MinInt, math.MinInt + 1}
}

func TestExampleP2201(t *testing.T) {
	q := made(t, 9)
	put(t, q, 3, api.OK)
	put(t, q, 5, api.OK)
	back(t, q, 7, api.OK)
	firsts(t, q, 7)
	holds(t, q, 3, 5)
}

func TestNewP2201(t *testing.T) {
	for _, most := range []int{0, -1, -2, -99, -1 << 32, -1<<32 + 1, math.MinInt, math.MinInt + 1} {
		if New(most) != nil {
			t.Errorf("New(%d): not nil", most)
		}
	}
	for most := range 20 {
		q := made(t, most+1)
		var l []int
		for i := range most + 1 {
			put(t, q, 100+i, api.OK)
			l = append(l, 100+i)
		}
		put(t, q, 1, api.ErrBusy)
		back(t, q, 1, api.ErrBusy)
		holds(t, q, l...)
	}
}

// A great most takes no room ahead of the calls.
func TestNewGreatP2201(t *testing.T) {
	for _, most := range []int{100, api.MaxIds, 1 << 32, 1<<32 + 1, math.MaxInt - 1, math.MaxInt} {
		q := made(t, most, 1, 2, 3)
		back(t, q, 4, api.OK)
		put(t, q, 4, api.ErrArg)
		firsts(t, q, 4, 1, 2, 3)
		none(t, q)
	}
}

// Two queues are two: what one has the other does not.
func TestNewTwiceP2201(t *testing.T) {
	a, b := made(t, 2, 1, 2), made(t, 2, 2, 3)
	put(t, a, 9, api.ErrBusy)
	firsts(t, a, 1)
	holds(t, a, 2)
	holds(t, b, 2, 3)
	cut(t, b, 2, true)
	holds(t, a, 2)
	holds(t, b, 3)
}

func TestPutP2201(t *testing.T) {
	q := made(t, 100)
	var l []int
	for _, id := range numbers() {
		away(t, q, id)
		put(t, q, id, api.OK)
		l = append(l, id)
		holds(t, q, l...)
	}
	firsts(t, q, l...)
	none(t, q)
}

func TestBackP2201(t *testing.T) {
	q := made(t, 100)
	var l []int
	for _, id := range numbers() {
		away(t, q, id)
		back(t, q, id, api.OK)
		l = slices.Insert(l, 0, id)
		holds(t, q, l...)
	}
	firsts(t, q, l...)
	none(t, q)
}

func TestPutAndBackInTurnP2201(t *testing.T) {
	q := made(t, 6)
	put(t, q, 1, api.OK)
	back(t, q, 2, api.OK)
	put(t, q, 3, api.OK)
	back(t, q, 4, api.OK)
	holds(t, q, 4, 2, 1, 3)
	back(t, q, 5, api.OK)
	put(t, q, 6, api.OK)
	holds(t, q, 5, 4, 2, 1, 3, 6)
	firsts(t, q, 5, 4, 2, 1, 3, 6)
	none(t, q)
}

// Back of one that First told: it waits first again.
func TestBackOfTheFirstP2201(t *testing.T) {
	q := made(t, 3, 4, 5, 6)
	for range 5 {
		firsts(t, q, 4)
		holds(t, q, 5, 6)
		back(t, q, 4, api.OK)
		holds(t, q, 4, 5, 6)
	}
	firsts(t, q, 4, 5)
	back(t, q, 5, api.OK)
	back(t, q, 4, api.OK)
	firsts(t, q, 4, 5, 6)
	none(t, q)
}

// One that is there is there, in a full queue too.
func TestThereP2201(t *testing.T) {
	for _, most := range []int{5, 6, 100} {
		q := made(t, most, 8, 0, -3, 6, 4)
		for _, id := range []int{8, 0, -3, 6, 4} {
			put(t, q, id, api.ErrArg)
			back(t, q, id, api.ErrArg)
			holds(t, q, 8, 0, -3, 6, 4)
		}
	}
	for _, id := range numbers() {
		q := made(t, 1, id)
		put(t, q, id, api.ErrArg)
		back(t, q, id, api.ErrArg)
		holds(t, q, id)
	}
}

func TestFullP2201(t *testing.T) {
	for _, l := range [][]int{{7}, {7, 8}, {7, 8, 9}, {7, -8, 9, -10, 11}} {
		q := made(t, len(l), l...)
		for _, id := range numbers() {
			put(t, q, id, api.ErrBusy)
			back(t, q, id, api.ErrBusy)
			away(t, q, id)
			holds(t, q, l...)
		}
	}
	q := made(t, 3)
	back(t, q, 1, api.OK)
	back(t, q, 2, api.OK)
	back(t, q, 3, api.OK)
	back(t, q, 4, api.ErrBusy)
	put(t, q, 4, api.ErrBusy)
	put(t, q, 1, api.ErrArg)
	holds(t, q, 3, 2, 1)
}

// One that went comes again, at either end.
func TestAgainP2201(t *testing.T) {
	for _, id := range numbers() {
		q := made(t, 2, id, 77)
		firsts(t, q, id)
		put(t, q, id, api.OK)
		holds(t, q, 77, id)
		cut(t, q, id, true)
		back(t, q, id, api.OK)
		holds(t, q, id, 77)
		cut(t, q, id, true)
		put(t, q, id, api.OK)
		holds(t, q, 77, id)
		firsts(t, q, 77, id)
		back(t, q, id, api.OK)
		holds(t, q, id)
	}
}

func TestFirstP2201(t *testing.T) {
	q := made(t, 4)
	none(t, q)
	put(t, q, 9, api.OK)
	firsts(t, q, 9)
	none(t, q)
	back(t, q, 0, api.OK)
	firsts(t, q, 0)
	none(t, q)
	for _, id := range []int{5, 4, 0, -6} {
		put(t, q, id, api.OK)
	}
	firsts(t, q, 5)
	holds(t, q, 4, 0, -6)
	away(t, q, 5)
	firsts(t, q, 4)
	holds(t, q, 0, -6)
	firsts(t, q, 0)
	holds(t, q, -6)
	firsts(t, q, -6)
	none(t, q)
}

// Behind First is room for one, at either end.
func TestRoomBehindFirstP2201(t *testing.T) {
	q := made(t, 3, 1, 2, 3)
	put(t, q, 4, api.ErrBusy)
	firsts(t, q, 1)
	put(t, q, 4, api.OK)
	back(t, q, 5, api.ErrBusy)
	holds(t, q, 2, 3, 4)
	firsts(t, q, 2)
	back(t, q, 5, api.OK)
	put(t, q, 6, api.ErrBusy)
	holds(t, q, 5, 3, 4)
	firsts(t, q, 5, 3, 4)
	none(t, q)
	put(t, q, 1, api.OK)
	put(t, q, 2, api.OK)
	put(t, q, 3, api.OK)
	put(t, q, 4, api.ErrBusy)
}

func TestCutP2201(t *testing.T) {
	for _, c := range []struct {
		id   int
		left []int
	}{
		{8, []int{0, -3, 6, 4}},
		{0, []int{8, -3, 6, 4}},
		{-3, []int{8, 0, 6, 4}},
		{6, []int{8, 0, -3, 4}},
		{4, []int{8, 0, -3, 6}},
	} {
		q := made(t, 5, 8, 0, -3, 6, 4)
		cut(t, q, c.id, true)
		holds(t, q, c.left...)
		away(t, q, c.id)
		cut(t, q, c.id, false)
		holds(t, q, c.left...)
		put(t, q, c.id, api.OK)
		put(t, q, 99, api.ErrBusy)
		holds(t, q, append(slices.Clone(c.left), c.id)...)
		cut(t, q, c.id, true)
		back(t, q, 99, api.OK)
		back(t, q, 98, api.ErrBusy)
		firsts(t, q, 99)
		firsts(t, q, c.left...)
		none(t, q)
	}
}

func TestCutOfNoneP2201(t *testing.T) {
	q := made(t, 4)
	for _, id := range numbers() {
		cut(t, q, id, false)
	}
	put(t, q, 50, api.OK)
	put(t, q, -51, api.OK)
	for _, id := range numbers() {
		cut(t, q, id, false)
		holds(t, q, 50, -51)
	}
	firsts(t, q, 50)
	cut(t, q, 50, false)
	holds(t, q, -51)
	cut(t, q, -51, true)
	cut(t, q, -51, false)
	none(t, q)
}

// Places move on behind Back, and come nearer behind First and Cut.
func TestPlaceP2201(t *testing.T) {
	q := made(t, 6, 1, 2, 3, 4)
	away(t, q, 0, 5, -1, math.MaxInt, math.MinInt)
	back(t, q, 5, api.OK)
	holds(t, q, 5, 1, 2, 3, 4)
	put(t, q, 0, api.OK)
	holds(t, q, 5, 1, 2, 3, 4, 0)
	back(t, q, 6, api.ErrBusy)
	holds(t, q, 5, 1, 2, 3, 4, 0)
	away(t, q, 6)
	firsts(t, q, 5)
	away(t, q, 5)
	holds(t, q, 1, 2, 3, 4, 0)
	cut(t, q, 3, true)
	away(t, q, 3, 5)
	holds(t, q, 1, 2, 4, 0)
	cut(t, q, 1, true)
	cut(t, q, 0, true)
	away(t, q, 0, 1, 3, 5)
	holds(t, q, 2, 4)
	firsts(t, q, 2, 4)
	away(t, q, 0, 1, 2, 3, 4, 5)
}

// ways are what turns a queue with 1, 2, 3, 4 of 5 in it.
func ways() []func(q *Queue) {
	return []func(q *Queue){
		func(q *Queue) { q.Put(9) },
		func(q *Queue) { q.Back(9) },
		func(q *Queue) { q.First() },
		func(q *Queue) { q.Cut(1) },
		func(q *Queue) { q.Cut(2) },
		func(q *Queue) { q.Cut(4) },
		func(q *Queue) { q.First(); q.Back(9) },
		func(q *Queue) { q.First(); q.First(); q.Put(9); q.Put(8); q.Back(7) },
		func(q *Queue) { q.Cut(3); q.Put(9); q.Back(8) },
	}
}

// A list that was handed out stays as it was, whatever comes of the queue.
func TestAllStaysP2201(t *testing.T) {
	for i, way := range ways() {
		q := made(t, 5, 1, 2, 3, 4)
		l := q.All()
		way(q)
		if !slices.Equal(l, []int{1, 2, 3, 4}) {
			t.Errorf("way %d: the list became %v", i, l)
		}
		m := slices.Clone(q.All())
		if slices.Equal(m, []int{1, 2, 3, 4}) {
			t.Errorf("way %d: the queue stays", i)
		}
	}
}

// A list that was handed out is the caller's own, and so is what is behind its end.
func TestAllIsOwnP2201(t *testing.T) {
	for i, way := range append(ways(), func(*Queue) {}) {
		q := made(t, 5, 1, 2, 3, 4)
		way(q)
		want := slices.Clone(q.All())
		l := q.All()
		for j := range l {
			l[j] = 50 + j
		}
		holds(t, q, want...)
		l = append(q.All(), 60, 61)
		holds(t, q, want...)
		q.Put(70)
		if n := len(want); l[n] != 60 || l[n+1] != 61 {
			t.Errorf("way %d: the list became %v", i, l)
		}
		a, b := q.All(), q.All()
		a[0] = 80
		if b[0] == 80 {
			t.Errorf("way %d: two lists are one", i)
		}
	}
}

func TestAllP2201(t *testing.T) {
	q := made(t, 2)
	holds(t, q)
	put(t, q, 4, api.OK)
	holds(t, q, 4)
	back(t, q, 3, api.OK)
	holds(t, q, 3, 4)
	put(t, q, 5, api.ErrBusy)
	holds(t, q, 3, 4)
	cut(t, q, 4, true)
	holds(t, q, 3)
	firsts(t, q, 3)
	holds(t, q)
}

// A nil queue has nothing and takes nothing; a zero one is as that.
func TestNilP2201(t *testing.T) {
	for _, q := range []*Queue{nil, {}, new(Queue)} {
		for _, id := range numbers() {
			put(t, q, id, api.ErrState)
			back(t, q, id, api.ErrState)
			put(t, q, id, api.ErrState)
			cut(t, q, id, false)
			away(t, q, id)
			none(t, q)
		}
		if l := q.All(); len(l) != 0 {
			t.Errorf("All: %v", l)
		}
	}
}
