package stream

import (
	"math"
	"math/rand"
	"slices"
	"testing"

	"bywash/api"
)

// step is Sent or Got.
type step func(state, kind int, end bool) (int, api.Errno)

// told is what one of them tells.
type told struct {
	state int
	e     api.Errno
}

// row is what is told of a kind in a state, without an end and with one.
type row struct {
	state, kind   int
	without, with told
}

func to(state int) told                 { return told{state, api.OK} }
func stays(state int, e api.Errno) told { return told{state, e} }

var (
	states = []int{Idle, Open, Local, Remote, Closed}
	kinds  = []int{api.Data, api.Headers, api.Reset, api.Update, api.Priority}

	noStates = []int{math.MinInt, -1 << 32, -6, -2, -1, 5, 6, 7, 100, 1 << 32, 1<<32 + 1, 1<<32 + 4, math.MaxInt}
	noKinds  = []int{api.Settings, api.Promise, api.Ping, api.Away, api.Continue, math.MinInt, -1 << 32, -8, -2, -1, 10, 11, 255, 256, 257, 1 << 32, 1<<32 + 1, 1<<32 + 3, math.MaxInt}
)

// sentRows tells the whole of Sent.
func sentRows() []row {
	return []row{
		{Idle, api.Data, stays(Idle, api.ErrState), stays(Idle, api.ErrState)},
		{Idle, api.Headers, to(Open), to(Local)},
		{Idle, api.Reset, stays(Idle, api.ErrState), stays(Idle, api.ErrState)},
		{Idle, api.Update, stays(Idle, api.ErrState), stays(Idle, api.ErrState)},
		{Idle, api.Priority, to(Idle), to(Idle)},

		{Open, api.Data, to(Open), to(Local)},
		{Open, api.Headers, to(Open), to(Local)},
		{Open, api.Reset, to(Closed), to(Closed)},
		{Open, api.Update, to(Open), to(Open)},
		{Open, api.Priority, to(Open), to(Open)},

		{Local, api.Data, stays(Local, api.ErrState), stays(Local, api.ErrState)},
		{Local, api.Headers, stays(Local, api.ErrState), stays(Local, api.ErrState)},
		{Local, api.Reset, to(Closed), to(Closed)},
		{Local, api.Update, to(Local), to(Local)},
		{Local, api.Priority, to(Local), to(Local)},

		{Remote, api.Data, to(Remote), to(Closed)},
		{Remote, api.Headers, to(Remote), to(Closed)},
		{Remote, api.Reset, to(Closed), to(Closed)},
		{Remote, api.Update, to(Remote), to(Remote)},
		{Remote, api.Priority, to(Remote), to(Remote)},

		{Closed, api.Data, stays(Closed, api.ErrClosed), stays(Closed, api.ErrClosed)},
		{Closed, api.Headers, stays(Closed, api.ErrClosed), stays(Closed, api.ErrClosed)},
		{Closed, api.Reset, stays(Closed, api.ErrClosed), stays(Closed, api.ErrClosed)},
		{Closed, api.Update, stays(Closed, api.ErrClosed), stays(Closed, api.ErrClosed)},
		{Closed, api.Priority, to(Closed), to(Closed)},
	}
}

// gotRows tells the whole of Got.
func gotRows() []row {
	return []row{
		{Idle, api.Data, stays(Idle, api.ErrProto), stays(Idle, api.ErrProto)},
		{Idle, api.Headers, stays(Idle, api.ErrProto), stays(Idle, api.ErrProto)},
		{Idle, api.Reset, stays(Idle, api.ErrProto), stays(Idle, api.ErrProto)},
		{Idle, api.Update, stays(Idle, api.ErrProto), stays(Idle, api.ErrProto)},
		{Idle, api.Priority, to(Idle), to(Idle)},

		{Open, api.Data, to(Open), to(Remote)},
		{Open, api.Headers, to(Open), to(Remote)},
		{Open, api.Reset, to(Closed), to(Closed)},
		{Open, api.Update, to(Open), to(Open)},
		{Open, api.Priority, to(Open), to(Open)},

		{Local, api.Data, to(Local), to(Closed)},
		{Local, api.Headers, to(Local), to(Closed)},
		{Local, api.Reset, to(Closed), to(Closed)},
		{Local, api.Update, to(Local), to(Local)},
		{Local, api.Priority, to(Local), to(Local)},

		{Remote, api.Data, stays(Remote, api.ErrClosed), stays(Remote, api.ErrClosed)},
		{Remote, api.Headers, stays(Remote, api.ErrClosed), stays(Remote, api.ErrClosed)},
		{Remote, api.Reset, to(Closed), to(Closed)},
		{Remote, api.Update, to(Remote), to(Remote)},
		{Remote, api.Priority, to(Remote), to(Remote)},

		{Closed, api.Data, stays(Closed, api.ErrClosed), stays(Closed, api.ErrClosed)},
		{Closed, api.Headers, stays(Closed, api.ErrClosed), stays(Closed, api.ErrClosed)},
		{Closed, api.Reset, to(Closed), to(Closed)},
		{Closed, api.Update, to(Closed), to(Closed)},
		{Closed, api.Priority, to(Closed), to(Closed)},
	}
}

// check holds what Sent or Got tells against what is wanted.
func check(t *testing.T, name string, f step, state, kind int, end bool, want told) {
	t.Helper()
	s, e := f(state, kind, end)
	if got := (told{s, e}); got != want {
		t.Errorf("%s(%d, %d, %v): %d, %d, not %d, %d", name, state, kind, end, s, e, want.state, want.e)
	}
}

// checkRows holds all that is told of right arguments against its rows, twice, since nothing is kept.
func checkRows(t *testing.T, name string, f step, rows []row) {
	t.Helper()
	if len(rows) != len(states)*len(kinds) {
		t.Fatalf("%d rows, not one for each state and kind", len(rows))
	}
	for range 2 {
		for i, r := range rows {
			if r.state != states[i/len(kinds)] || r.kind != kinds[i%len(kinds)] {
				t.Fatalf("row %d is of state %d, kind %d", i, r.state, r.kind)
			}
			check(t, name, f, r.state, r.kind, false, r.without)
			check(t, name, f, r.state, r.kind, true, r.with)
		}
	}
}

// both runs a check on Sent and on Got.
func both(run func(name string, f step)) {
	run("Sent", Sent)
	run("Got", Got)
}

func TestExampleP1401(t *testing.T) {
	check(t, "Sent", Sent, Idle, api.Headers, true, to(Local))
}

func TestSentP1401(t *testing.T) { checkRows(t, "Sent", Sent, sentRows()) }
func TestGotP1401(t *testing.T)  { checkRows(t, "Got", Got, gotRows()) }

func TestStatesAreNumberedP1401(t *testing.T) {
	if got := [...]int{Idle, Open, Local, Remote, Closed}; got != [...]int{0, 1, 2, 3, 4} {
		t.Errorf("the states are %v", got)
	}
}

func TestPriorityLeavesEachStateP1401(t *testing.T) {
	both(func(name string, f step) {
		for _, state := range states {
			check(t, name, f, state, api.Priority, false, to(state))
			check(t, name, f, state, api.Priority, true, to(state))
		}
	})
}

func TestAnEndOfOtherKindsP1401(t *testing.T) {
	both(func(name string, f step) {
		for _, state := range states {
			for _, kind := range []int{api.Reset, api.Update, api.Priority} {
				s, e := f(state, kind, false)
				check(t, name, f, state, kind, true, told{s, e})
			}
		}
	})
}

func TestOtherKindsP1401(t *testing.T) {
	both(func(name string, f step) {
		for _, state := range states {
			for _, kind := range noKinds {
				check(t, name, f, state, kind, false, stays(state, api.ErrArg))
				check(t, name, f, state, kind, true, stays(state, api.ErrArg))
			}
		}
	})
}

func TestStatesThatAreNoneP1401(t *testing.T) {
	both(func(name string, f step) {
		for _, state := range noStates {
			for _, kind := range kinds {
				check(t, name, f, state, kind, false, stays(state, api.ErrArg))
				check(t, name, f, state, kind, true, stays(state, api.ErrArg))
			}
		}
	})
}

func TestBothWrongP1401(t *testing.T) {
	both(func(name string, f step) {
		for _, state := range noStates {
			for _, kind := range noKinds {
				check(t, name, f, state, kind, false, stays(state, api.ErrArg))
				check(t, name, f, state, kind, true, stays(state, api.ErrArg))
			}
		}
	})
}

// everyCall does Sent and Got of each state and kind that a test knows, right ones and wrong ones.
func everyCall(run func(name string, f step, state, kind int, end bool)) {
	both(func(name string, f step) {
		for _, state := range slices.Concat(states, noStates) {
			for _, kind := range slices.Concat(kinds, noKinds) {
				run(name, f, state, kind, false)
				run(name, f, state, kind, true)
			}
		}
	})
}

func TestAnErrorLeavesTheStateP1401(t *testing.T) {
	errors := map[api.Errno]int{}
	everyCall(func(name string, f step, state, kind int, end bool) {
		s, e := f(state, kind, end)
		if e != api.OK && s != state {
			t.Errorf("%s(%d, %d, %v): error %d, but the state is %d", name, state, kind, end, e, s)
		}
		errors[e]++
	})
	for _, e := range []api.Errno{api.OK, api.ErrArg, api.ErrState, api.ErrProto, api.ErrClosed} {
		if errors[e] == 0 {
			t.Errorf("error %d was never told", e)
		}
		delete(errors, e)
	}
	if len(errors) != 0 {
		t.Errorf("other errors were told: %v", errors)
	}
}

// mirrored tells a state as the other side has it.
func mirrored(state int) int {
	switch state {
	case Local:
		return Remote
	case Remote:
		return Local
	}
	return state
}

func TestGotIsSentOfTheOtherSideP1401(t *testing.T) {
	for _, state := range []int{Open, Local, Remote} {
		for _, kind := range kinds {
			for _, end := range []bool{false, true} {
				s, e := Sent(mirrored(state), kind, end)
				want := told{mirrored(s), e}
				if e == api.ErrState {
					want.e = api.ErrClosed // what the chapter names for the side that came to its end
				}
				check(t, "Got", Got, state, kind, end, want)
			}
		}
	}
}

// change is a way from one state to another.
type change struct {
	name     string
	from, to int
}

func TestNoOtherChangesP1401(t *testing.T) {
	got := map[change]int{}
	everyCall(func(name string, f step, state, kind int, end bool) {
		if s, _ := f(state, kind, end); s != state {
			got[change{name, state, s}]++
		}
	})
	for want, calls := range map[change]int{
		{"Sent", Idle, Open}:     1, // Headers
		{"Sent", Idle, Local}:    1, // Headers with end
		{"Sent", Open, Local}:    2, // Data, Headers with end
		{"Sent", Open, Closed}:   2, // Reset
		{"Sent", Local, Closed}:  2,
		{"Sent", Remote, Closed}: 4, // Reset, Data, Headers with end
		{"Got", Open, Remote}:    2,
		{"Got", Open, Closed}:    2,
		{"Got", Local, Closed}:   4,
		{"Got", Remote, Closed}:  2,
	} {
		if got[want] != calls {
			t.Errorf("%s from %d to %d by %d calls, not %d", want.name, want.from, want.to, got[want], calls)
		}
		delete(got, want)
	}
	if len(got) != 0 {
		t.Errorf("other changes: %v", got)
	}
}

// call is one of a row of calls, and what it tells.
type call struct {
	sent bool
	kind int
	end  bool
	want told
}

func s(kind int, want told) call    { return call{true, kind, false, want} }
func sEnd(kind int, want told) call { return call{true, kind, true, want} }
func g(kind int, want told) call    { return call{false, kind, false, want} }
func gEnd(kind int, want told) call { return call{false, kind, true, want} }

// follow does a row of calls one behind the other, from Idle on, and tells where it comes to.
func follow(t *testing.T, calls ...call) int {
	t.Helper()
	state := Idle
	for _, c := range calls {
		name, f := "Got", Got
		if c.sent {
			name, f = "Sent", Sent
		}
		check(t, name, f, state, c.kind, c.end, c.want)
		state, _ = f(state, c.kind, c.end)
	}
	return state
}

// checkClosed holds that a row of calls ends Closed, and that nothing leads out of it.
func checkClosed(t *testing.T, calls ...call) {
	t.Helper()
	after := []call{
		s(api.Priority, to(Closed)), g(api.Priority, to(Closed)),
		g(api.Reset, to(Closed)), g(api.Update, to(Closed)),
		s(api.Reset, stays(Closed, api.ErrClosed)), s(api.Update, stays(Closed, api.ErrClosed)),
		s(api.Headers, stays(Closed, api.ErrClosed)), sEnd(api.Headers, stays(Closed, api.ErrClosed)),
		g(api.Headers, stays(Closed, api.ErrClosed)), gEnd(api.Headers, stays(Closed, api.ErrClosed)),
		s(api.Data, stays(Closed, api.ErrClosed)), gEnd(api.Data, stays(Closed, api.ErrClosed)),
		s(api.Settings, stays(Closed, api.ErrArg)), g(-1, stays(Closed, api.ErrArg)),
	}
	if state := follow(t, slices.Concat(calls, after)...); state != Closed {
		t.Errorf("at the end of the row: %d, not closed", state)
	}
}

func TestARequestWithoutABodyP1401(t *testing.T) {
	asked := []call{
		g(api.Headers, stays(Idle, api.ErrProto)), s(api.Data, stays(Idle, api.ErrState)),
		s(api.Reset, stays(Idle, api.ErrState)), g(api.Reset, stays(Idle, api.ErrProto)),
		s(api.Priority, to(Idle)), g(api.Priority, to(Idle)),
		sEnd(api.Headers, to(Local)),
		s(api.Data, stays(Local, api.ErrState)), sEnd(api.Headers, stays(Local, api.ErrState)),
		g(api.Headers, to(Local)), s(api.Update, to(Local)),
	}
	for _, last := range []call{
		gEnd(api.Data, to(Closed)), gEnd(api.Headers, to(Closed)), g(api.Reset, to(Closed)), s(api.Reset, to(Closed)),
		gEnd(api.Reset, to(Closed)), sEnd(api.Reset, to(Closed)),
	} {
		checkClosed(t, append(slices.Clone(asked), g(api.Data, to(Local)), last)...)
		checkClosed(t, append(slices.Clone(asked), last)...)
		checkClosed(t, sEnd(api.Headers, to(Local)), last)
	}
}

func TestThisSideEndsFirstP1401(t *testing.T) {
	for _, own := range []call{sEnd(api.Data, to(Local)), sEnd(api.Headers, to(Local))} {
		for _, last := range []call{
			gEnd(api.Data, to(Closed)), gEnd(api.Headers, to(Closed)), g(api.Reset, to(Closed)), s(api.Reset, to(Closed)),
		} {
			checkClosed(t,
				s(api.Headers, to(Open)), s(api.Data, to(Open)), g(api.Update, to(Open)), g(api.Headers, to(Open)),
				s(api.Data, to(Open)), g(api.Data, to(Open)), s(api.Update, to(Open)),
				own,
				s(api.Data, stays(Local, api.ErrState)), g(api.Update, to(Local)), s(api.Update, to(Local)),
				g(api.Data, to(Local)), s(api.Priority, to(Local)), sEnd(api.Update, to(Local)),
				last)
			checkClosed(t, s(api.Headers, to(Open)), own, last)
		}
	}
}

func TestTheOtherSideEndsFirstP1401(t *testing.T) {
	for _, other := range []call{gEnd(api.Data, to(Remote)), gEnd(api.Headers, to(Remote))} {
		for _, last := range []call{
			sEnd(api.Data, to(Closed)), sEnd(api.Headers, to(Closed)), s(api.Reset, to(Closed)), g(api.Reset, to(Closed)),
		} {
			checkClosed(t,
				s(api.Headers, to(Open)), g(api.Headers, to(Open)), s(api.Data, to(Open)), g(api.Data, to(Open)),
				other,
				g(api.Data, stays(Remote, api.ErrClosed)), gEnd(api.Headers, stays(Remote, api.ErrClosed)),
				s(api.Data, to(Remote)), g(api.Update, to(Remote)), s(api.Headers, to(Remote)),
				s(api.Update, to(Remote)), g(api.Priority, to(Remote)), gEnd(api.Update, to(Remote)),
				last)
			checkClosed(t, s(api.Headers, to(Open)), other, last)
		}
	}
}

func TestBrokenOffP1401(t *testing.T) {
	for _, last := range []call{
		s(api.Reset, to(Closed)), g(api.Reset, to(Closed)), sEnd(api.Reset, to(Closed)), gEnd(api.Reset, to(Closed)),
	} {
		checkClosed(t, s(api.Headers, to(Open)), last)
		checkClosed(t, s(api.Headers, to(Open)), s(api.Data, to(Open)), g(api.Data, to(Open)), last)
	}
}

// rowOf tells what the rows have of a call.
func rowOf(rows []row, state, kind int, end bool) told {
	for _, r := range rows {
		if r.state == state && r.kind == kind && end {
			return r.with
		} else if r.state == state && r.kind == kind {
			return r.without
		}
	}
	return stays(state, api.ErrArg)
}

func TestDrawnCallsInTurnsP1401(t *testing.T) {
	r := rand.New(rand.NewSource(1401))
	sent, got := sentRows(), gotRows()
	ends := [5]int{}
	for range 20000 {
		state := Idle
		for range r.Intn(15) {
			kind, end := r.Intn(12)-1, r.Intn(3) == 0
			name, f, rows := "Sent", Sent, sent
			if r.Intn(2) == 0 {
				name, f, rows = "Got", Got, got
			}
			want := rowOf(rows, state, kind, end)
			check(t, name, f, state, kind, end, want)
			state = want.state
		}
		ends[state]++
	}
	for state, n := range ends {
		if n < 100 {
			t.Errorf("only %d rows of calls ended %d: too few to say anything", n, state)
		}
	}
}

func TestNameWritesReadsP1402(t *testing.T) {
	for _, c := range []struct {
		state         int
		name          string
		writes, reads bool
	}{
		{Idle, "idle", false, false},
		{Open, "open", true, true},
		{Local, "local", false, true},
		{Remote, "remote", true, false},
		{Closed, "closed", false, false},
	} {
		checkSaid(t, c.state, c.name, c.writes, c.reads)
	}
}

func TestNameWritesReadsOfNoStateP1402(t *testing.T) {
	for _, state := range noStates {
		checkSaid(t, state, "", false, false)
	}
}

// checkSaid holds all that is said of a state against what is wanted.
func checkSaid(t *testing.T, state int, name string, writes, reads bool) {
	t.Helper()
	if got := Name(state); got != name {
		t.Errorf("Name(%d): %q, not %q", state, got, name)
	}
	if got := Writes(state); got != writes {
		t.Errorf("Writes(%d): %v, not %v", state, got, writes)
	}
	if got := Reads(state); got != reads {
		t.Errorf("Reads(%d): %v, not %v", state, got, reads)
	}
}

func TestWritesAndReadsAsDataMayGoP1402(t *testing.T) {
	for _, state := range slices.Concat(states, noStates) {
		for _, end := range []bool{false, true} {
			_, e := Sent(state, api.Data, end)
			if Writes(state) != (e == api.OK) {
				t.Errorf("Writes(%d): %v, but Data that is sent tells %d", state, Writes(state), e)
			}
			_, e = Got(state, api.Data, end)
			if Reads(state) != (e == api.OK) {
				t.Errorf("Reads(%d): %v, but Data that came tells %d", state, Reads(state), e)
			}
		}
	}
}
