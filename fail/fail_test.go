package fail

import (
	"errors"
	"fmt"
	"slices"
	"strings"
	"testing"

	"bywash/api"
)

// broken is an error of somebody else, each method of which panics.
type broken struct{}

func (broken) Error() string { panic("Error") }
func (broken) Unwrap() error { panic("Unwrap") }
func (broken) Is(error) bool { panic("Is") }
func (broken) As(any) bool   { panic("As") }

// holder is an error of somebody else whose methods panic of a nil one.
type holder struct{ err error }

func (h *holder) Error() string { return h.err.Error() }
func (h *holder) Unwrap() error { return h.err }

// lender is no Failure, and wraps none, but As finds one by it.
type lender struct{ f *Failure }

func (l lender) Error() string { return "lender" }
func (l lender) As(target any) bool {
	p, ok := target.(**Failure)
	if ok {
		*p = l.f
	}
	return ok
}

// several wraps more than one.
type several []error

func (s several) Error() string   { return "several" }
func (s several) Unwrap() []error { return s }

// fields tells a Failure's parts; it fails if err is none.
func fields(t *testing.T, err error) Failure {
	t.Helper()
	f, ok := err.(*Failure)
	if !ok || f == nil {
		t.Fatalf("%#v is no *Failure", err)
	}
	return *f
}

func TestNewP101(t *testing.T) {
	if err := New(api.OK); err != nil {
		t.Errorf("New(OK): %#v", err)
	}
	for _, code := range []api.Errno{api.ErrArg, api.ErrState, api.ErrMany, 24, 1000, -1} {
		if f := fields(t, New(code)); f != (Failure{Code: code}) {
			t.Errorf("New(%d): %#v", code, f)
		}
	}
	one, two := New(api.ErrBusy).(*Failure), New(api.ErrBusy).(*Failure)
	one.Op, one.Code = "turned", api.ErrDead
	if *two != (Failure{Code: api.ErrBusy}) || fields(t, New(api.ErrBusy)) != *two {
		t.Error("New: two answers are one")
	}
}

func TestWrapP101(t *testing.T) {
	if err := Wrap("x", nil); err != nil {
		t.Errorf("Wrap of nil: %#v", err)
	}
	plain, busy := errors.New("plain"), New(api.ErrBusy)
	var none *Failure
	for _, c := range []struct {
		what string
		op   string
		err  error
		code api.Errno
	}{
		{"of ours", "open", busy, api.ErrBusy},
		{"without Op", "", busy, api.ErrBusy},
		{"of a wrapped one", "call", Wrap("open", busy), api.ErrBusy},
		{"the outermost code", "call", Join("open", api.ErrGone, busy), api.ErrGone},
		{"of a joined OK", "call", Join("open", api.OK, busy), api.OK},
		{"of somebody else's", "x", plain, api.ErrState},
		{"below somebody else's", "x", fmt.Errorf("at %w", busy), api.ErrBusy},
		{"of a nil Failure", "x", none, api.ErrState},
	} {
		if f := fields(t, Wrap(c.op, c.err)); f != (Failure{c.op, c.code, c.err}) {
			t.Errorf("Wrap %s: %#v", c.what, f)
		}
	}
}

func TestJoinP101(t *testing.T) {
	plain, busy := errors.New("plain"), New(api.ErrBusy)
	var none *Failure
	for _, want := range []Failure{
		{"call", api.ErrGone, busy},
		{"call", api.OK, busy},
		{"call", api.ErrGone, nil},
		{"", api.OK, nil},
		{"", api.ErrDead, plain},
		{"x", -7, none},
	} {
		if f := fields(t, Join(want.Op, want.Code, want.Err)); f != want {
			t.Errorf("Join: %#v, not %#v", f, want)
		}
	}
}

func TestUnwrapP101(t *testing.T) {
	plain, busy := errors.New("plain"), New(api.ErrBusy)
	if errors.Unwrap(busy) != nil {
		t.Error("Unwrap of New")
	}
	if got := errors.Unwrap(Wrap("x", plain)); got != plain {
		t.Errorf("Unwrap of Wrap: %v", got)
	}
	if got := errors.Unwrap(Join("x", api.ErrGone, busy)); got != busy {
		t.Errorf("Unwrap of Join: %v", got)
	}
	if !errors.Is(Wrap("a", Wrap("b", plain)), plain) {
		t.Error("errors.Is does not get down to the innermost")
	}
	var none *Failure
	if none.Unwrap() != nil || (&Failure{}).Unwrap() != nil {
		t.Error("Unwrap of a nil one, or a zero one")
	}
}

func TestIsP101(t *testing.T) {
	plain := errors.New("plain")
	var none *Failure
	full := &Failure{"a", api.ErrBusy, plain}
	for _, c := range []struct {
		what   string
		f      *Failure
		target error
		want   bool
	}{
		{"its code", full, New(api.ErrBusy), true},
		{"its code, by Join", full, Join("", api.ErrBusy, nil), true},
		{"both bare", &Failure{Code: api.ErrBusy}, New(api.ErrBusy), true},
		{"a code without a name", &Failure{Op: "a", Code: -3}, New(-3), true},
		{"another code", full, New(api.ErrGone), false},
		{"itself, with Op and Err", full, full, false},
		{"with an Op", full, &Failure{Op: "a", Code: api.ErrBusy}, false},
		{"with an Err", full, &Failure{Code: api.ErrBusy, Err: plain}, false},
		{"with a nil Failure as Err", full, &Failure{Code: api.ErrBusy, Err: none}, false},
		{"OK", &Failure{}, &Failure{}, false},
		{"OK with Op and Err", &Failure{"a", api.OK, plain}, &Failure{}, false},
		{"what is below it", &Failure{"a", api.ErrGone, New(api.ErrBusy)}, New(api.ErrBusy), false},
		{"somebody else's", full, plain, false},
		{"somebody else's around it", full, fmt.Errorf("at %w", New(api.ErrBusy)), false},
		{"somebody else's that As turns", full, lender{&Failure{Code: api.ErrBusy}}, false},
		{"nil", full, nil, false},
		{"a nil Failure", full, none, false},
		{"a nil Failure of OK", &Failure{}, none, false},
		{"nil of a code", none, New(api.ErrBusy), false},
		{"nil of OK", none, &Failure{}, false},
		{"nil of nil", none, none, false},
		{"nil of no error", none, nil, false},
	} {
		if got := c.f.Is(c.target); got != c.want {
			t.Errorf("Is, %s: %v", c.what, got)
		}
	}
}

func TestCodeP102(t *testing.T) {
	plain := errors.New("plain")
	var none *Failure
	var hollow *holder
	for _, c := range []struct {
		what string
		err  error
		want api.Errno
	}{
		{"nil", nil, api.OK},
		{"New", New(api.ErrFlow), api.ErrFlow},
		{"a code without a name", New(99), 99},
		{"Wrap", Wrap("a", New(api.ErrFlow)), api.ErrFlow},
		{"the first, not the last", Join("a", api.ErrMany, New(api.ErrFlow)), api.ErrMany},
		{"the first, of OK", Join("a", api.OK, New(api.ErrFlow)), api.OK},
		{"nil Failure", none, api.ErrState},
		{"nil Failure below", fmt.Errorf("at %w", none), api.ErrState},
		{"nil Failure first of several", errors.Join(none, New(api.ErrFlow)), api.ErrState},
		{"somebody else's", plain, api.ErrState},
		{"below somebody else's", fmt.Errorf("at %w", New(api.ErrLate)), api.ErrLate},
		{"in words alone", fmt.Errorf("at %v", New(api.ErrLate)), api.ErrState},
		{"several", errors.Join(plain, New(api.ErrFlow), New(api.ErrLate)), api.ErrFlow},
		{"several, deep first", several{Join("a", api.ErrDial, plain), New(api.ErrFlow)}, api.ErrDial},
		{"several, none of ours", errors.Join(plain, plain), api.ErrState},
		{"none at all", several{}, api.ErrState},
		{"by As", lender{&Failure{Code: api.ErrSize}}, api.ErrSize},
		{"nil by As", lender{}, api.ErrState},
		{"what panics", broken{}, api.ErrState},
		{"what panics, nil", hollow, api.ErrState},
		{"what panics below", fmt.Errorf("at %w", broken{}), api.ErrState},
		{"ours around what panics", Join("a", api.ErrFlow, broken{}), api.ErrFlow},
		{"Wrap of what panics", Wrap("a", broken{}), api.ErrState},
	} {
		if got := Code(c.err); got != c.want {
			t.Errorf("Code, %s: %d, not %d", c.what, got, c.want)
		}
	}
}

func TestHasP102(t *testing.T) {
	plain := errors.New("plain")
	var none *Failure
	join := Join("call", api.ErrGone, Wrap("open", New(api.ErrBusy)))
	for _, c := range []struct {
		what string
		err  error
		code api.Errno
		want bool
	}{
		{"the outermost", join, api.ErrGone, true},
		{"the innermost", join, api.ErrBusy, true},
		{"neither", join, api.ErrDead, false},
		{"OK of an error", join, api.OK, false},
		{"OK of nil", nil, api.OK, true},
		{"a code of nil", nil, api.ErrBusy, false},
		{"OK of a joined OK", Join("x", api.OK, nil), api.OK, false},
		{"OK of a zero Failure", &Failure{}, api.OK, false},
		{"below a joined OK", Join("x", api.OK, New(api.ErrBusy)), api.ErrBusy, true},
		{"OK of a nil Failure", none, api.OK, false},
		{"ErrState of a nil Failure", none, api.ErrState, false},
		{"ErrState of a wrapped nil Failure", Wrap("x", none), api.ErrState, true},
		{"ErrState of somebody else's", plain, api.ErrState, false},
		{"ErrState of a wrapped one of somebody else's", Wrap("x", plain), api.ErrState, true},
		{"below somebody else's", fmt.Errorf("at %w", join), api.ErrBusy, true},
		{"second of several", errors.Join(plain, New(api.ErrFlow)), api.ErrFlow, true},
		{"below several", Wrap("x", several{plain, join}), api.ErrBusy, true},
		{"none of several", errors.Join(plain, New(api.ErrFlow)), api.ErrLate, false},
		{"a code without a name", New(-3), -3, true},
		{"OK of what panics", broken{}, api.OK, false},
		{"what panics", broken{}, api.ErrBusy, false},
		{"ahead of what panics", Join("x", api.ErrBusy, broken{}), api.ErrBusy, true},
		{"not ahead of what panics", Join("x", api.ErrBusy, broken{}), api.ErrGone, false},
	} {
		if got := Has(c.err, c.code); got != c.want {
			t.Errorf("Has, %s: %v", c.what, got)
		}
	}
}

func TestPathP102(t *testing.T) {
	busy := New(api.ErrBusy)
	open := Wrap("open", busy)
	join := Join("call", api.ErrGone, open)
	var none *Failure
	var hollow *holder
	for _, c := range []struct {
		what string
		err  error
		want []string
	}{
		{"nil", nil, nil},
		{"nil Failure", none, nil},
		{"without Op", busy, nil},
		{"one", open, []string{"open"}},
		{"the outermost first", join, []string{"call", "open"}},
		{"one twice", Wrap("open", open), []string{"open", "open"}},
		{"an empty one between", Wrap("a", Wrap("", Wrap("b", busy))), []string{"a", "b"}},
		{"of OK", Join("a", api.OK, nil), []string{"a"}},
		{"somebody else's", errors.New("plain"), nil},
		{"somebody else's between", Wrap("a", fmt.Errorf("at %w", open)), []string{"a", "open"}},
		{"somebody else's end", Wrap("a", errors.New("plain")), []string{"a"}},
		{"several", errors.Join(open, join), nil},
		{"several of one", Wrap("top", errors.Join(open)), []string{"top"}},
		{"several, made by a format", Wrap("top", fmt.Errorf("%w %w", open, join)), []string{"top"}},
		{"nil Failure at the end", Wrap("a", none), []string{"a"}},
		{"what As alone finds", Wrap("a", lender{&Failure{Op: "lent"}}), []string{"a"}},
		{"what panics", broken{}, nil},
		{"what panics below", Wrap("a", Wrap("b", broken{})), []string{"a", "b"}},
		{"what panics, nil", Wrap("a", hollow), []string{"a"}},
	} {
		if got := Path(c.err); !slices.Equal(got, c.want) {
			t.Errorf("Path, %s: %q, not %q", c.what, got, c.want)
		}
	}
	Path(join)[0] = "turned"
	if got := Path(join); !slices.Equal(got, []string{"call", "open"}) {
		t.Errorf("Path: two answers share memory: %q", got)
	}
}

func TestErrorP102(t *testing.T) {
	plain, busy := errors.New("plain"), New(api.ErrBusy)
	var none *Failure
	var hollow *holder
	for _, c := range []struct {
		err  error
		want string
	}{
		{busy, "busy"},
		{New(99), "error"},
		{New(-1), "error"},
		{&Failure{}, "ok"},
		{none, ""},
		{Wrap("open", busy), "open: busy"},
		{Wrap("", busy), "busy"},
		{Wrap("a", Wrap("", Wrap("b", busy))), "a: b: busy"},
		{Wrap("x", plain), "x: plain"},
		{Wrap("", plain), "plain"},
		{Wrap("x", errors.New("")), "x: "},
		{Wrap("x", none), "x: "},
		{Join("", api.ErrBusy, none), ""},
		{Wrap("x", fmt.Errorf("at %w", Wrap("y", busy))), "x: at y: busy"},
		{Wrap("x", errors.Join(busy, plain)), "x: busy\nplain"},
		{Join("call", api.ErrGone, Wrap("open", busy)), "call: open: busy"},
		{Join("a", api.ErrDead, nil), "a: dead"},
		{Join("a", api.OK, nil), "a: ok"},
		{Join("a: b", api.OK, plain), "a: b: plain"},
		{Join("\xff\x00", api.ErrDead, nil), "\xff\x00: dead"},
		{Join("a", api.ErrDead, broken{}), "a: dead"},
		{Join("a", api.ErrDead, Join("b", api.ErrGone, broken{})), "a: b: gone"},
		{Join("a", api.ErrDead, hollow), "a: dead"},
	} {
		if got := c.err.Error(); got != c.want {
			t.Errorf("Error: %q, not %q", got, c.want)
		}
	}
}

// As many parts as the document lets be nested in one another.
func TestNestedP102(t *testing.T) {
	const deep = 1 << 16
	err := New(api.ErrLate)
	for range deep - 1 {
		err = Wrap("a", err)
	}
	if got := err.Error(); got != strings.Repeat("a: ", deep-1)+"late" {
		t.Errorf("Error of many: %d bytes", len(got))
	}
	if got := len(Path(err)); got != deep-1 {
		t.Errorf("Path of many: %d", got)
	}
	if Code(err) != api.ErrLate || !Has(err, api.ErrLate) || Has(err, api.ErrBusy) {
		t.Error("Code or Has of many")
	}
}

func TestNameP102(t *testing.T) {
	words := strings.Fields("ok arg more form range size name order state flow pack proto closed busy gone refused reset cancel late dead dial none length many")
	for number, word := range words {
		if got := Name(api.Errno(number)); got != word {
			t.Errorf("Name(%d): %q, not %q", number, got, word)
		}
	}
	least := -int(^uint(0)>>1) - 1
	for _, code := range []int{-1, len(words), 99, 1000, 1 << 32, 1<<32 + 1, least, -(least + 1)} {
		if got := Name(api.Errno(code)); got != "error" {
			t.Errorf("Name(%d): %q", code, got)
		}
	}
}
