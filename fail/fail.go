// Package fail has errors that tell where they come from.
package fail

import (
	"errors"
	"strings"

	"bywash/api"
)

// Failure is an error.
type Failure struct {
	Op   string
	Code api.Errno
	Err  error
}

// Error tells it in words.
func (f *Failure) Error() string {
	if f == nil {
		return ""
	}
	var told strings.Builder
	last := f
	// Failures are gone down one by one, not by their own Error: each of
	// these would copy the whole text below it once more.
	for next := f; next != nil; next, _ = next.Err.(*Failure) {
		if next.Op != "" {
			told.WriteString(next.Op)
			told.WriteString(": ")
		}
		last = next
	}
	told.WriteString(ending(last))
	return told.String()
}

// ending tells what stands behind the Ops.
func ending(f *Failure) (text string) {
	if f.Err == nil {
		return Name(f.Code)
	}
	// An error of somebody else may panic when it is asked: then it has no
	// words, and the code's stand for them.
	defer func() {
		if recover() != nil {
			text = Name(f.Code)
		}
	}()
	return f.Err.Error()
}

// Unwrap tells what is below it.
func (f *Failure) Unwrap() error {
	if f == nil {
		return nil
	}
	return f.Err
}

// Is tells whether it is of a kind.
func (f *Failure) Is(target error) bool {
	if f == nil {
		return false
	}
	// The target itself counts, not what it wraps: so no errors.As here.
	kind, ok := target.(*Failure)
	if !ok || kind == nil {
		return false
	}
	return kind.Op == "" && kind.Err == nil && kind.Code == f.Code && f.Code != api.OK
}

// New makes one of a code.
func New(code api.Errno) error {
	if code == api.OK {
		return nil
	}
	return &Failure{Code: code}
}

// Wrap puts where it was ahead of an error.
func Wrap(op string, err error) error {
	if err == nil {
		return nil
	}
	return &Failure{Op: op, Code: Code(err), Err: err}
}

// Join makes one of all.
func Join(op string, code api.Errno, err error) error {
	return &Failure{Op: op, Code: code, Err: err}
}

// Code tells an error's code.
func Code(err error) (code api.Errno) {
	if err == nil {
		return api.OK
	}
	// What panics on the way (Unwrap, As of somebody else) leads to none.
	defer func() {
		if recover() != nil {
			code = api.ErrState
		}
	}()
	var found *Failure
	if !errors.As(err, &found) || found == nil {
		return api.ErrState
	}
	return found.Code
}

// Has tells whether an error is of a code.
func Has(err error, code api.Errno) (has bool) {
	if code == api.OK {
		return err == nil
	}
	// What panics on the way (Unwrap, Is of somebody else) leads to none.
	defer func() {
		if recover() != nil {
			has = false
		}
	}()
	return errors.Is(err, New(code))
}

// Path tells where an error came by.
func Path(err error) []string {
	var ops []string
	for next := err; next != nil; next = below(next) {
		if f, ok := next.(*Failure); ok && f != nil && f.Op != "" {
			ops = append(ops, f.Op)
		}
	}
	return ops
}

// below tells what an error wraps; an Unwrap that panics wraps nothing.
func below(err error) (next error) {
	defer func() {
		if recover() != nil {
			next = nil
		}
	}()
	return errors.Unwrap(err)
}

var names = [...]string{
	api.OK:         "ok",
	api.ErrArg:     "arg",
	api.ErrMore:    "more",
	api.ErrForm:    "form",
	api.ErrRange:   "range",
	api.ErrSize:    "size",
	api.ErrName:    "name",
	api.ErrOrder:   "order",
	api.ErrState:   "state",
	api.ErrFlow:    "flow",
	api.ErrPack:    "pack",
	api.ErrProto:   "proto",
	api.ErrClosed:  "closed",
	api.ErrBusy:    "busy",
	api.ErrGone:    "gone",
	api.ErrRefused: "refused",
	api.ErrReset:   "reset",
	api.ErrCancel:  "cancel",
	api.ErrLate:    "late",
	api.ErrDead:    "dead",
	api.ErrDial:    "dial",
	api.ErrNone:    "none",
	api.ErrLength:  "length",
	api.ErrMany:    "many",
}

// Name tells a code's name.
func Name(code api.Errno) string {
	if code < 0 || int(code) >= len(names) {
		return "error"
	}
	return names[code]
}
