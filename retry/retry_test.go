package retry

import (
	"errors"
	"fmt"
	"math"
	"slices"
	"testing"

	"bywash/api"
	"bywash/fail"
)

// The errors by how they may be sent again, as the chapter lists them.
var (
	always = []api.Errno{api.ErrRefused, api.ErrGone}
	safely = []api.Errno{api.ErrDead, api.ErrReset, api.ErrDial, api.ErrLate}
	never  = []api.Errno{
		api.OK, api.ErrArg, api.ErrMore, api.ErrForm, api.ErrRange, api.ErrSize, api.ErrName, api.ErrOrder, api.ErrState,
		api.ErrFlow, api.ErrPack, api.ErrProto, api.ErrClosed, api.ErrBusy, api.ErrCancel, api.ErrNone, api.ErrLength, api.ErrMany,
	}
	nowhere = []api.Errno{math.MinInt, -20, -15, -14, -1, api.ErrMany + 1, 99, 1000, math.MaxInt}
)

var (
	safe  = []string{"GET", "HEAD", "PUT", "DELETE", "OPTIONS"}
	risky = []string{"POST", "PATCH", "TRACE", "CONNECT", "", "get", "put", "Get", "GET ", "XGET", "\x00"}
)

// some are numbers of tries, and of how many there may be.
var some = []int{math.MinInt, -4, -1, 0, 1, 2, 3, 4, 5, math.MaxInt}

// errnos are all of package api, and numbers that are none.
func errnos() []api.Errno { return slices.Concat(always, safely, never, nowhere) }

// methods are those that are safe, and others.
func methods() []string { return slices.Concat(safe, risky) }

// may tells by the chapter's words whether something may be sent again.
func may(method string, code api.Errno, written bool, tries, most int) bool {
	if tries >= most {
		return false
	}
	if slices.Contains(always, code) {
		return true
	}
	return slices.Contains(safely, code) && (slices.Contains(safe, method) || !written)
}

// TestErrnosP2101: the lists above have each error of package api, just once.
func TestErrnosP2101(t *testing.T) {
	listed := slices.Concat(always, safely, never)
	slices.Sort(listed)
	for i, code := range listed {
		if code != api.Errno(i) {
			t.Fatalf("%d: %d stands there", i, code)
		}
	}
	if len(listed) != int(api.ErrMany)+1 {
		t.Fatalf("%d errors", len(listed))
	}
}

func TestAgainP2101(t *testing.T) {
	told := [2]int{}
	for _, code := range errnos() {
		for _, method := range methods() {
			for _, written := range []bool{false, true} {
				for _, tries := range some {
					for _, most := range some {
						want := may(method, code, written, tries, most)
						if got := Again(method, code, written, tries, most); got != want {
							t.Errorf("Again(%q, %d, %v, %d, %d): %v", method, code, written, tries, most, got)
						}
						if want {
							told[1]++
						} else {
							told[0]++
						}
					}
				}
			}
		}
	}
	if told[0] < 1000 || told[1] < 1000 {
		t.Errorf("%d are false, %d true", told[0], told[1])
	}
}

// TestAgainRowsP2101: the edges, one by one, without the list's help.
func TestAgainRowsP2101(t *testing.T) {
	for _, c := range []struct {
		what        string
		method      string
		code        api.Errno
		written     bool
		tries, most int
		want        bool
	}{
		{"the chapter's example", "POST", api.ErrRefused, true, 1, 4, true},
		{"went away ahead of it", "POST", api.ErrGone, true, 1, 4, true},
		{"refused, one below most", "POST", api.ErrRefused, true, 3, 4, true},
		{"refused, as often as may be", "POST", api.ErrRefused, true, 4, 4, false},
		{"refused, oftener", "POST", api.ErrRefused, true, 5, 4, false},
		{"safe, as often as may be", "GET", api.ErrDead, false, 4, 4, false},
		{"gone, as often as may be", "GET", api.ErrGone, false, 1, 1, false},
		{"unsafe and written", "POST", api.ErrDead, true, 1, 4, false},
		{"unsafe, nothing written", "POST", api.ErrDead, false, 1, 4, true},
		{"safe and written", "DELETE", api.ErrReset, true, 1, 4, true},
		{"safe, in small letters", "delete", api.ErrReset, true, 1, 4, false},
		{"no method", "", api.ErrLate, true, 0, 1, false},
		{"no method, nothing written", "", api.ErrLate, false, 0, 1, true},
		{"no connection", "POST", api.ErrDial, false, 1, 4, true},
		{"no connection, yet written", "POST", api.ErrDial, true, 1, 4, false},
		{"broken off by the caller", "GET", api.ErrCancel, false, 0, 4, false},
		{"against the rules", "GET", api.ErrProto, false, 0, 4, false},
		{"closed", "GET", api.ErrClosed, false, 0, 4, false},
		{"busy", "GET", api.ErrBusy, false, 0, 4, false},
		{"no error", "GET", api.OK, false, 0, 4, false},
		{"most is 0", "GET", api.ErrRefused, false, 0, 0, false},
		{"most is below 0", "GET", api.ErrRefused, false, 0, -1, false},
		{"both below 0", "GET", api.ErrRefused, false, -2, -1, true},
		{"tries below 0, most 0", "GET", api.ErrRefused, false, -1, 0, true},
		{"far apart", "GET", api.ErrGone, false, math.MinInt, math.MaxInt, true},
		{"far apart, turned", "GET", api.ErrGone, false, math.MaxInt, math.MinInt, false},
	} {
		if got := Again(c.method, c.code, c.written, c.tries, c.most); got != c.want {
			t.Errorf("%s: %v", c.what, got)
		}
	}
}

// TestFinalP2101: it is false as soon as Again is true of anything.
func TestFinalP2101(t *testing.T) {
	for _, code := range errnos() {
		last := true
		for _, method := range methods() {
			for _, written := range []bool{false, true} {
				for _, tries := range some {
					last = last && !Again(method, code, written, tries, math.MaxInt) && !Again(method, code, written, min(tries, 3), 4)
				}
			}
		}
		if got := Final(code); got != last {
			t.Errorf("Final(%d): %v, but Again tells otherwise", code, got)
		}
		if got, want := Final(code), !slices.Contains(always, code) && !slices.Contains(safely, code); got != want {
			t.Errorf("Final(%d): %v", code, got)
		}
	}
}

func TestErrOfNoneP2101(t *testing.T) {
	for _, tries := range some {
		if err := Err(api.OK, tries); err != nil {
			t.Errorf("Err(OK, %d): %v", tries, err)
		}
	}
}

// parts tells the Failures of an error, the outermost first; each must be one, and wrap the next.
func parts(t *testing.T, err error) []fail.Failure {
	t.Helper()
	var all []fail.Failure
	for ; err != nil; err = errors.Unwrap(err) {
		f, ok := err.(*fail.Failure)
		if !ok || f == nil {
			t.Fatalf("%#v is no *Failure", err)
		}
		all = append(all, fail.Failure{Op: f.Op, Code: f.Code})
	}
	return all
}

func TestErrP2101(t *testing.T) {
	for _, code := range errnos() {
		if code == api.OK {
			continue
		}
		for _, tries := range some {
			what := fmt.Sprintf("Err(%d, %d)", code, tries)
			err := Err(code, tries)
			want := []fail.Failure{{Op: "call", Code: code}, {Code: code}}
			words, ops, first := "call: "+fail.Name(code), []string{"call"}, code
			if tries > 1 {
				want = slices.Insert(want, 0, fail.Failure{Op: "again", Code: api.ErrMany})
				words, ops, first = "again: "+words, []string{"again", "call"}, api.ErrMany
			}
			if got := parts(t, err); !slices.Equal(got, want) {
				t.Errorf("%s: %v, not %v", what, got, want)
			}
			if err.Error() != words || fail.Code(err) != first || !slices.Equal(fail.Path(err), ops) {
				t.Errorf("%s: %q, %d, %q", what, err.Error(), fail.Code(err), fail.Path(err))
			}
			kinds(t, what, err, code, tries)
		}
	}
}

// kinds holds against each error whether err is of it.
func kinds(t *testing.T, what string, err error, code api.Errno, tries int) {
	t.Helper()
	for _, kind := range errnos() {
		want := kind == code || kind == api.ErrMany && tries > 1
		if got := fail.Has(err, kind); got != want {
			t.Errorf("%s: Has(%d): %v", what, kind, got)
		}
		if kind == api.OK {
			continue
		}
		if got := errors.Is(err, fail.New(kind)); got != want {
			t.Errorf("%s: errors.Is of %d: %v", what, kind, got)
		}
	}
	var found *fail.Failure
	if !errors.As(err, &found) || found == nil {
		t.Fatalf("%s: errors.As finds nothing", what)
	}
	op, first := "call", code
	if tries > 1 {
		op, first = "again", api.ErrMany
	}
	if found.Op != op || found.Code != first {
		t.Errorf("%s: errors.As finds %q, %d", what, found.Op, found.Code)
	}
}

// TestErrRowsP2101: what a caller is told, in words.
func TestErrRowsP2101(t *testing.T) {
	for _, c := range []struct {
		code  api.Errno
		tries int
		words string
		first api.Errno
	}{
		{api.ErrReset, -1, "call: reset", api.ErrReset},
		{api.ErrReset, 0, "call: reset", api.ErrReset},
		{api.ErrReset, 1, "call: reset", api.ErrReset},
		{api.ErrReset, 2, "again: call: reset", api.ErrMany},
		{api.ErrRefused, 4, "again: call: refused", api.ErrMany},
		{api.ErrMany, 1, "call: many", api.ErrMany},
		{api.ErrMany, 2, "again: call: many", api.ErrMany},
		{99, 1, "call: error", 99},
		{-1, 3, "again: call: error", api.ErrMany},
	} {
		err := Err(c.code, c.tries)
		if err.Error() != c.words || fail.Code(err) != c.first || !fail.Has(err, c.code) {
			t.Errorf("Err(%d, %d): %q, %d, %v", c.code, c.tries, err.Error(), fail.Code(err), fail.Has(err, c.code))
		}
	}
}

// TestErrNewP2101: what is done to one error is not seen in another.
func TestErrNewP2101(t *testing.T) {
	for _, tries := range []int{1, 2} {
		one, two := Err(api.ErrDead, tries), Err(api.ErrDead, tries)
		want := parts(t, two)
		for err := one; err != nil; {
			f := err.(*fail.Failure)
			err = f.Err
			f.Op, f.Code, f.Err = "turned", api.ErrBusy, nil
		}
		if got := parts(t, two); !slices.Equal(got, want) {
			t.Errorf("tried %d: the other one is turned: %v", tries, got)
		}
		if got := parts(t, Err(api.ErrDead, tries)); !slices.Equal(got, want) {
			t.Errorf("tried %d: a later one is turned: %v", tries, got)
		}
	}
}
