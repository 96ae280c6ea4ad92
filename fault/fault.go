// Package fault is layer 1: see shared/doc/01-fault.md.
package fault

import (
	"errors"
	"strconv"
	"strings"

	"daybook/api"
)

// Fault is an error that says what was being done, and where.
type Fault struct {
	Op    string
	At    int // below 0: no place
	inner error
}

// Error is the text of a fault.
//
// Faults around faults are gone through in a loop: were each to add its own text to that of the one within, deep ones would cost the square of their depth.
func (f *Fault) Error() string {
	var text strings.Builder
	for f != nil {
		text.WriteString(f.Op)
		if f.At >= 0 {
			text.WriteString(" at " + strconv.Itoa(f.At))
		}
		if f.inner == nil {
			break
		}
		text.WriteString(": ")
		next, ok := itself(f.inner)
		if !ok {
			text.WriteString(textOf(f.inner))
		}
		f = next
	}
	return text.String()
}

// Unwrap is what the fault wraps.
func (f *Fault) Unwrap() error {
	if f == nil {
		return nil
	}
	return f.inner
}

// New is a fault of that number; nil where the number has no sentinel.
func New(op string, at int, e api.Errno) error {
	s := Sentinel(e)
	if s == nil {
		return nil
	}
	return &Fault{Op: op, At: at, inner: s}
}

// Wrap puts an operation around an error; nil around nil.
func Wrap(op string, inner error) error {
	if inner == nil {
		return nil
	}
	return &Fault{Op: op, At: -1, inner: inner}
}

// Code is the number of the sentinel that the error is, or wraps.
func Code(err error) api.Errno {
	if err == nil {
		return api.OK
	}
	for _, s := range sentinels() {
		if holds(err, s.err) {
			return s.number
		}
	}
	return api.ErrArg
}

// Path is what was being done, from the outside to the inside.
func Path(err error) []string {
	var ops []string
	for {
		f, ok := nearest(err)
		if !ok || f == nil { // a nil fault can be found, and has no Op
			return ops
		}
		ops = append(ops, f.Op)
		err = f.inner
	}
}

// itself is err, if that is a fault itself and does not only wrap one.
func itself(err error) (*Fault, bool) {
	f, ok := nearest(err)
	if !ok || error(f) != err {
		return nil, false
	}
	return f, true
}

// nearest is the outermost fault in err.
func nearest(err error) (f *Fault, ok bool) {
	guard(func() { ok = errors.As(err, &f) })
	return f, ok
}

// holds tells whether the sentinel is found in err.
func holds(err, sentinel error) (ok bool) {
	guard(func() { ok = errors.Is(err, sentinel) })
	return ok
}

// textOf is the text of an error; "" of one that can't tell it.
func textOf(err error) (text string) {
	guard(func() { text = err.Error() })
	return text
}

// guard keeps a panic within: errors of others bring methods of their own, which may panic, and no call of this package does.
func guard(do func()) {
	defer func() { _ = recover() }()
	do()
}
