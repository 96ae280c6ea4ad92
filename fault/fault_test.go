package fault_test

import (
	"errors"
	"fmt"
	"io/fs"
	"math"
	"slices"
	"strings"
	"testing"

	"daybook/api"
	"daybook/fault"
)

// words is the document's list, written out a second time.
var words = map[api.Errno]string{
	api.OK: "ok", api.ErrArg: "argument", api.ErrClosed: "closed", api.ErrDown: "power off", api.ErrCorrupt: "corrupt",
	10: "ends early", 11: "overlong", 12: "too wide",
	20: "tag", 21: "order of tags", 22: "empty field", 23: "long text", 24: "too big",
	30: "version", 31: "kind", 32: "field", 33: "form",
	40: "state",
	50: "name", 51: "no file", 52: "exists", 53: "files", 54: "disk full",
	60: "torn", 61: "mark", 62: "sum", 63: "range",
	70: "index", 71: "header", 72: "sealed", 73: "missing",
	80: "manifest", 81: "book",
	90: "segments", 91: "numbers", 92: "sequence", 93: "empty", 94: "no snapshot", 95: "compacted",
	100: "line", 101: "word", 102: "lines", 103: "output",
}

// numbers is all numbers near those with a word, and the edges of their type.
func numbers() []api.Errno {
	all := []api.Errno{math.MinInt, math.MinInt + 1, math.MaxInt - 1, math.MaxInt, 1 << 32, 1<<32 + 1}
	for e := api.Errno(-300); e <= 600; e++ {
		all = append(all, e)
	}
	return all
}

// sentinelNumbers is the numbers that have a sentinel.
func sentinelNumbers() []api.Errno {
	var all []api.Errno
	for e := range words {
		if e != api.OK {
			all = append(all, e)
		}
	}
	slices.Sort(all)
	return all
}

func TestP1_1NameIsTheWord(t *testing.T) {
	if len(words) != 43 {
		t.Fatalf("%d words in the test's list", len(words))
	}
	for _, e := range numbers() {
		if got := fault.Name(e); got != words[e] {
			t.Errorf("Name(%d) = %q, want %q", e, got, words[e])
		}
	}
}

func TestP1_2SentinelHasTheWordAndIsOne(t *testing.T) {
	for _, e := range numbers() {
		s := fault.Sentinel(e)
		if e == api.OK || words[e] == "" {
			if s != nil {
				t.Errorf("Sentinel(%d) = %v, want nil", e, s)
			}
			continue
		}
		if s == nil || s.Error() != words[e] {
			t.Errorf("Sentinel(%d) = %v, want %q", e, s, words[e])
			continue
		}
		var f *fault.Fault
		if errors.As(s, &f) || errors.Unwrap(s) != nil {
			t.Errorf("Sentinel(%d) is a fault or wraps something", e)
		}
		if _, many := s.(interface{ Unwrap() []error }); many {
			t.Errorf("Sentinel(%d) wraps several", e)
		}
	}
}

func TestP1_2SentinelsAreTheSameAndDiffer(t *testing.T) {
	for _, a := range sentinelNumbers() {
		for _, b := range sentinelNumbers() {
			if (fault.Sentinel(a) == fault.Sentinel(b)) != (a == b) {
				t.Errorf("Sentinel(%d) == Sentinel(%d) is %v", a, b, a != b)
			}
			if errors.Is(fault.Sentinel(a), fault.Sentinel(b)) != (a == b) {
				t.Errorf("errors.Is of Sentinel(%d), Sentinel(%d) is %v", a, b, a != b)
			}
		}
	}
}

func TestP1_3NewWrapsItsSentinelAlone(t *testing.T) {
	for _, e := range sentinelNumbers() {
		for _, at := range []int{math.MinInt, -7, -1, 0, 1, math.MaxInt} {
			err := fault.New("op", at, e)
			f, ok := err.(*fault.Fault)
			if !ok || f == nil || f.Op != "op" || f.At != at || f.Unwrap() != fault.Sentinel(e) {
				t.Fatalf("New(op, %d, %d) = %#v", at, e, err)
			}
			for _, other := range sentinelNumbers() {
				if errors.Is(err, fault.Sentinel(other)) != (other == e) {
					t.Errorf("errors.Is of New(.., %d), Sentinel(%d) is %v", e, other, other != e)
				}
			}
		}
	}
}

func TestP1_3NewIsNilWhereThereIsNoSentinel(t *testing.T) {
	for _, e := range numbers() {
		if err := fault.New("x", 1, e); (err == nil) != (fault.Sentinel(e) == nil) {
			t.Errorf("New(x, 1, %d) = %v", e, err)
		}
	}
	a, b := fault.New("x", 1, api.ErrArg), fault.New("x", 1, api.ErrArg)
	if a == b {
		t.Error("two faults are one")
	}
}

func TestP1_4WrapPutsAFaultAround(t *testing.T) {
	if err := fault.Wrap("x", nil); err != nil {
		t.Errorf("Wrap(x, nil) = %v", err)
	}
	var none *fault.Fault
	for _, inner := range []error{errors.New("other"), fault.Sentinel(api.ErrSum), fault.New("c", 3, api.ErrSum), &fault.Fault{}, none} {
		f, ok := fault.Wrap("op", inner).(*fault.Fault)
		if !ok || f == nil || f.Op != "op" || f.At != -1 || f.Unwrap() != inner {
			t.Errorf("Wrap(op, %#v) = %#v", inner, f)
		}
	}
}

func TestP1_5Text(t *testing.T) {
	var none *fault.Fault
	full := fault.New("append", 7, api.ErrFull)
	for _, x := range []struct {
		err  error
		want string
	}{
		{full, "append at 7: disk full"},
		{fault.Wrap("script", full), "script: append at 7: disk full"},
		{fault.Wrap("a", fault.Wrap("b", fault.New("c", -1, api.ErrSum))), "a: b: c: sum"},
		{fault.New("x", 0, api.ErrArg), "x at 0: argument"},
		{fault.New("x", -1, api.ErrArg), "x: argument"},
		{fault.New("x", math.MinInt, api.ErrArg), "x: argument"},
		{fault.New("x", math.MaxInt, api.ErrArg), "x at 9223372036854775807: argument"},
		{fault.New("", 5, api.ErrArg), " at 5: argument"},
		{fault.New("", -1, api.ErrArg), ": argument"},
		{fault.New("\x00\xff at 3: %d\n", -1, api.ErrArg), "\x00\xff at 3: %d\n: argument"},
		{fault.Wrap("x", errors.New("")), "x: "},
		{fault.Wrap("x", fmt.Errorf("mid %w end", full)), "x: mid append at 7: disk full end"},
		{fault.Wrap("x", errors.Join(full, errors.New("other"))), "x: append at 7: disk full\nother"},
		{none, ""},
		{fault.Wrap("x", none), "x: "},
		{&fault.Fault{}, " at 0"},
		{&fault.Fault{Op: "hand", At: 4}, "hand at 4"},
		{&fault.Fault{Op: "hand", At: -4}, "hand"},
		{fault.Wrap("x", &fault.Fault{Op: "hand", At: -4}), "x: hand"},
	} {
		if got := x.err.Error(); got != x.want {
			t.Errorf("text %q, want %q", got, x.want)
		}
	}
}

func TestP1_5TextFollowsItsFields(t *testing.T) {
	f := fault.New("a", 1, api.ErrArg).(*fault.Fault)
	f.Op, f.At = "b", -2
	if f.Error() != "b: argument" {
		t.Errorf("text %q", f.Error())
	}
}

func TestP1_5UnwrapOfNothing(t *testing.T) {
	var none *fault.Fault
	if none.Unwrap() != nil || (&fault.Fault{Op: "hand"}).Unwrap() != nil {
		t.Error("Unwrap of a fault that wraps nothing")
	}
}

func TestP1_5DeepText(t *testing.T) {
	const depth = 1 << 16
	err := fault.New("op", -1, api.ErrSum)
	for range depth - 1 {
		err = fault.Wrap("op", err)
	}
	if err.Error() != strings.Repeat("op: ", depth)+"sum" {
		t.Error("text of a deep fault")
	}
	if fault.Code(err) != api.ErrSum || len(fault.Path(err)) != depth {
		t.Error("Code or Path of a deep fault")
	}
}

func TestP1_6CodeOfEachNumber(t *testing.T) {
	for _, e := range sentinelNumbers() {
		for _, err := range []error{
			fault.Sentinel(e),
			fault.New("x", 1, e),
			fault.Wrap("a", fault.Wrap("b", fault.New("c", -1, e))),
			fmt.Errorf("foreign: %w", fault.New("c", -1, e)),
			fault.Wrap("a", errors.Join(errors.New("other"), fault.Sentinel(e))),
		} {
			if got := fault.Code(err); got != e {
				t.Errorf("Code(%v) = %d, want %d", err, got, e)
			}
		}
	}
}

func TestP1_6CodeIsTheLeast(t *testing.T) {
	for _, a := range sentinelNumbers() {
		for _, b := range sentinelNumbers() {
			err := errors.Join(fault.New("x", 1, a), fault.Sentinel(b))
			if got := fault.Code(err); got != min(a, b) {
				t.Errorf("Code of %d and %d is %d", a, b, got)
			}
		}
	}
}

func TestP1_6CodeWhereThereIsNone(t *testing.T) {
	var none *fault.Fault
	if fault.Code(nil) != api.OK {
		t.Error("Code(nil)")
	}
	for _, err := range []error{
		errors.New("other"),
		errors.New("sum"), // the word alone is no sentinel
		fault.Wrap("x", errors.New("other")),
		&fault.Fault{Op: "hand"},
		none,
		fault.Wrap("x", none),
		uncomparable{1},
	} {
		if got := fault.Code(err); got != api.ErrArg {
			t.Errorf("Code(%#v) = %d", err, got)
		}
	}
}

func TestP1_7Path(t *testing.T) {
	var none *fault.Fault
	deep := fault.Wrap("a", fault.Wrap("b", fault.New("c", -1, api.ErrSum)))
	for _, x := range []struct {
		err  error
		want []string
	}{
		{nil, nil},
		{none, nil},
		{errors.New("other"), nil},
		{fault.Sentinel(api.ErrSum), nil},
		{deep, []string{"a", "b", "c"}},
		{fault.New("", 1, api.ErrSum), []string{""}},
		{fault.Wrap("a", fault.Wrap("a", errors.New("other"))), []string{"a", "a"}},
		{&fault.Fault{Op: "hand"}, []string{"hand"}},
		{fault.Wrap("x", none), []string{"x"}},
		{fmt.Errorf("foreign: %w", deep), []string{"a", "b", "c"}},
		{fault.Wrap("x", fmt.Errorf("foreign: %w", deep)), []string{"x", "a", "b", "c"}},
		{errors.Join(errors.New("other"), deep, fault.New("d", 1, api.ErrArg)), []string{"a", "b", "c"}},
	} {
		if got := fault.Path(x.err); !slices.Equal(got, x.want) {
			t.Errorf("Path(%v) = %q, want %q", x.err, got, x.want)
		}
	}
}

func TestP1_7PathIsNewMemory(t *testing.T) {
	err := fault.Wrap("a", fault.New("b", 1, api.ErrSum))
	fault.Path(err)[0] = "changed"
	if !slices.Equal(fault.Path(err), []string{"a", "b"}) {
		t.Error("an answer is shared")
	}
}

func TestExamples(t *testing.T) {
	if fault.New("x", 1, 0) != nil || fault.New("x", 1, 5) != nil || fault.Wrap("x", nil) != nil || fault.Name(5) != "" {
		t.Error("example 3")
	}
}

type uncomparable []int

func (uncomparable) Error() string { return "uncomparable" }

// rude is an error of others of which every method panics.
type rude struct{}

func (rude) Error() string { panic("Error") }
func (rude) Unwrap() error { panic("Unwrap") }
func (rude) Is(error) bool { panic("Is") }
func (rude) As(any) bool   { panic("As") }

func TestNoCallPanicsAtErrorsOfOthers(t *testing.T) {
	var path *fs.PathError // its methods panic on nil
	for _, inner := range []error{rude{}, path} {
		err := fault.Wrap("x", fault.Wrap("y", inner))
		if got := err.Error(); got != "x: y: " {
			t.Errorf("text %q", got)
		}
		if fault.Code(err) != api.ErrArg || fault.Code(inner) != api.ErrArg {
			t.Error("Code")
		}
		if !slices.Equal(fault.Path(err), []string{"x", "y"}) || len(fault.Path(inner)) != 0 {
			t.Error("Path")
		}
	}
}
