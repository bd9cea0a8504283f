package queue

import (
	"math"
	"math/rand"
	"slices"
	"testing"

	"bywash/api"
)

// plain is a queue by the chapter's words: a list of calls that wait, and what became of each try.
type plain struct {
	most     int
	list     []int
	lists    [][2][]int // handed out by All, and as they were then
	happened map[string]int
}

func (p *plain) note(what string) { p.happened[what]++ }

// may tells whether one may come in.
func (p *plain) may(way string, id int) api.Errno {
	there := slices.Contains(p.list, id)
	full := len(p.list) == p.most
	switch {
	case there && full:
		p.note(way + ": there, full")
		return api.ErrArg
	case there:
		p.note(way + ": there")
		return api.ErrArg
	case full:
		p.note(way + ": full")
		return api.ErrBusy
	case len(p.list) == 0:
		p.note(way + ": the only one")
	}
	p.note(way)
	return api.OK
}

func (p *plain) put(t *testing.T, q *Queue, id int) {
	e := p.may("Put", id)
	put(t, q, id, e)
	if e == api.OK {
		p.list = append(slices.Clone(p.list), id)
	}
}

func (p *plain) back(t *testing.T, q *Queue, id int) {
	e := p.may("Back", id)
	back(t, q, id, e)
	if e == api.OK {
		p.list = append([]int{id}, p.list...)
	}
}

func (p *plain) first(t *testing.T, q *Queue) {
	if len(p.list) == 0 {
		p.note("First: none")
		none(t, q)
		return
	}
	p.note("First")
	firsts(t, q, p.list[0])
	p.list = slices.Clone(p.list[1:])
}

func (p *plain) cut(t *testing.T, q *Queue, id int) {
	var left []int
	for _, x := range p.list {
		if x != id {
			left = append(left, x)
		}
	}
	is := len(left) < len(p.list)
	switch {
	case !is:
		p.note("Cut: none")
	case id == p.list[0]:
		p.note("Cut: the first")
	case id == p.list[len(p.list)-1]:
		p.note("Cut: the last")
	default:
		p.note("Cut: in the middle")
	}
	cut(t, q, id, is)
	p.list = left
}

func (p *plain) place(t *testing.T, q *Queue, id int) {
	want := -1
	for i, x := range p.list {
		if x == id {
			want = i
		}
	}
	if want < 0 {
		p.note("Place: none")
	} else {
		p.note("Place")
	}
	if n := q.Place(id); n != want {
		t.Fatalf("Place(%d): %d, not %d", id, n, want)
	}
}

// all keeps a list, or turns it and lets it go.
func (p *plain) all(t *testing.T, q *Queue, r *rand.Rand) {
	l := q.All()
	if !slices.Equal(l, p.list) {
		t.Fatalf("All: %v, not %v", l, p.list)
	}
	if r.Intn(2) == 0 {
		p.note("All: kept")
		p.lists = append(p.lists, [2][]int{l, slices.Clone(l)})
		return
	}
	p.note("All: turned")
	for i := range l {
		l[i] = r.Intn(20)
	}
	l = append(l, r.Intn(20), r.Intn(20))
	slices.Reverse(l)
}

// drawn tells an id: a few that come often, so that they are there as often as not.
func drawn(r *rand.Rand, few int) int {
	if r.Intn(40) == 0 {
		l := numbers()
		return l[r.Intn(len(l))]
	}
	return r.Intn(few) - few/4
}

// enough holds that each of these happened often enough.
func enough(t *testing.T, happened map[string]int, least int, l ...string) {
	t.Helper()
	for _, what := range l {
		if happened[what] < least {
			t.Errorf("%q: %d times: too few to say anything", what, happened[what])
		}
	}
}

func TestDrawnP2201(t *testing.T) {
	r := rand.New(rand.NewSource(2201))
	happened := map[string]int{}
	for range 600 {
		most := 1 + r.Intn(1+r.Intn(14))
		if r.Intn(10) == 0 {
			most = math.MaxInt - r.Intn(3)
		}
		q, p := made(t, most), &plain{most: most, happened: happened}
		few := 2 + r.Intn(20)
		leans := r.Intn(4) // which way comes more often
		for range 200 {
			id := drawn(r, few)
			way := r.Intn(9)
			if way >= 6 {
				way = leans
			}
			switch way {
			case 0:
				p.put(t, q, id)
			case 1:
				p.back(t, q, id)
			case 2:
				p.first(t, q)
			case 3:
				p.cut(t, q, id)
			case 4:
				p.place(t, q, id)
			case 5:
				p.all(t, q, r)
			}
			holds(t, q, p.list...)
		}
		for _, l := range p.lists {
			if !slices.Equal(l[0], l[1]) {
				t.Fatalf("a list that was handed out was %v, and became %v", l[1], l[0])
			}
		}
	}
	enough(t, happened, 500,
		"Put", "Put: there", "Put: there, full", "Put: full", "Put: the only one",
		"Back", "Back: there", "Back: there, full", "Back: full", "Back: the only one",
		"First", "First: none", "Cut: the first", "Cut: the last", "Cut: in the middle", "Cut: none",
		"Place", "Place: none", "All: kept", "All: turned")
}

// A queue that is filled and emptied for long stays as it is.
func TestLongP2201(t *testing.T) {
	q := made(t, 3, 1, 2)
	for i := range 200000 {
		put(t, q, i+3, api.OK)
		put(t, q, i+4, api.ErrBusy)
		firsts(t, q, i+1)
		if i%1000 == 0 {
			holds(t, q, i+2, i+3)
		}
	}
	for i := range 200000 {
		firsts(t, q, 200001+i%2)
		put(t, q, 200001+i%2, api.OK)
	}
	holds(t, q, 200001, 200002)
}

// Many that wait are told in their order.
func TestManyP2201(t *testing.T) {
	const n = 2000
	q := made(t, 2*n)
	for i := range n {
		put(t, q, i, api.OK)
		back(t, q, -1-i, api.OK)
	}
	put(t, q, n, api.ErrBusy)
	for i := range 2 * n {
		if p := q.Place(i - n); p != i {
			t.Fatalf("Place(%d): %d, not %d", i-n, p, i)
		}
	}
	for i := range n {
		cut(t, q, 2*(i-n/2), true)
	}
	for i := range n {
		firsts(t, q, 2*(i-n/2)+1)
	}
	none(t, q)
}
