package upkeep_test

import (
	"bytes"
	"reflect"
	"slices"
	"testing"

	"daybook/api"
	"daybook/simfs"
	"daybook/store"
	"daybook/upkeep"
)

// calls are all of the chapter's, each told by its Errno and whether its other results are zero.
func calls() map[string]func(s *store.Store) (bool, api.Errno) {
	return map[string]func(s *store.Store) (bool, api.Errno){
		"Book": func(s *store.Store) (bool, api.Errno) {
			ss, seq, bad := upkeep.Book(s)
			return len(ss) == 0 && seq == 0, bad
		},
		"States": func(s *store.Store) (bool, api.Errno) {
			ss, bad := upkeep.States(s)
			return len(ss) == 0, bad
		},
		"Snapshot": func(s *store.Store) (bool, api.Errno) { return true, upkeep.Snapshot(s) },
		"Compact": func(s *store.Store) (bool, api.Errno) {
			n, bad := upkeep.Compact(s)
			return n == 0, bad
		},
	}
}

func TestP20_1NilClosedAndDown(t *testing.T) {
	for what, call := range calls() {
		if zero, bad := call(nil); !zero || bad != api.ErrArg {
			t.Errorf("%s of nil: %v, %d", what, zero, bad)
		}
		if zero, bad := call(new(store.Store)); !zero || bad != api.ErrClosed {
			t.Errorf("%s of the zero store: %v, %d", what, zero, bad)
		}
		fs := stocked(2, 6, 2, 2, 3).disk(t, 5000)
		s := opened(t, fs, 3)
		s.Close()
		image, steps := fs.Image(), fs.Steps()
		if zero, bad := call(s); !zero || bad != api.ErrClosed {
			t.Errorf("%s of a closed store: %v, %d", what, zero, bad)
		}
		if fs.Steps() != steps || !reflect.DeepEqual(fs.Image(), image) {
			t.Errorf("%s of a closed store changes the disk", what)
		}
		s = opened(t, fs, 3)
		off(fs)
		image, steps = fs.Image(), fs.Steps()
		if zero, bad := call(s); !zero || bad != api.ErrDown || !s.Closed() {
			t.Errorf("%s without power: %v, %d, closed: %v", what, zero, bad, s.Closed())
		}
		if zero, bad := call(s); !zero || bad != api.ErrClosed {
			t.Errorf("%s again: %v, %d", what, zero, bad)
		}
		if fs.Steps() != steps || !reflect.DeepEqual(fs.Image(), image) {
			t.Errorf("%s without power changes the disk", what)
		}
	}
}

// Alive's answer comes ahead of every other one, of a store with which nothing can be done as well.
func TestP20_1AliveComesFirst(t *testing.T) {
	for what, call := range calls() {
		fs := simfs.New(51)
		s := opened(t, fs, 3)
		off(fs)
		if _, bad := call(s); bad != api.ErrDown {
			t.Errorf("%s without power: %d", what, bad)
		}
	}
}

// In each step of the two calls the power fails: they answer ErrDown, and the store is closed, whoever has made the step.
func TestP20_1ThePowerFailsInTheMidst(t *testing.T) {
	shops := map[string]shop{
		"with a book":          stocked(2, 6, 2, 2, 3),
		"without one":          stocked(0, 0, 2, 2, 3),
		"all segments may go":  stocked(2, 7, 2, 3),
		"one of them may":      stocked(0, 2, 2, 2, 2),
		"an empty active one":  stocked(0, 4, 2, 2, 0),
		"all in an active one": stocked(0, 4, 4),
	}
	steps := map[string]map[string]int{
		"Snapshot": {"with a book": 9, "without one": 8, "one of them may": 9},
		"Compact":  {"with a book": 6, "all segments may go": 9, "one of them may": 5, "an empty active one": 6, "all in an active one": 8},
	}
	for what, of := range steps {
		for which, count := range of {
			for fuse := 1; fuse <= count+1; fuse++ {
				fs := shops[which].disk(t, 5000)
				s := opened(t, fs, 9)
				fs.Fuse(fuse)
				zero, bad := calls()[what](s)
				if fuse <= count && (!zero || bad != api.ErrDown || !s.Closed() || s.Alive() != api.ErrClosed) {
					t.Errorf("%s %s, in step %d: %v, %d, closed: %v", what, which, fuse, zero, bad, s.Closed())
				}
				if fuse > count && (bad != api.OK || s.Closed()) {
					t.Errorf("%s %s, ahead of step %d: %d, closed: %v", what, which, fuse, bad, s.Closed())
				}
			}
		}
	}
}

func TestP20_2NoBook(t *testing.T) {
	for _, fs := range []*simfs.FS{simfs.New(100), stocked(0, 0, 2, 2).disk(t, 0)} {
		if ss, seq, bad := upkeep.Book(opened(t, fs, 2)); len(ss) != 0 || seq != 0 || bad != api.OK {
			t.Errorf("Book = %v, %d, %d", ss, seq, bad)
		}
	}
}

func TestP20_2TheBook(t *testing.T) {
	for _, snap := range []int{1, 2, 3, 6, 7} {
		fs := stocked(0, snap, 2, 2, 3).disk(t, 5000)
		s := opened(t, fs, 9)
		steps := fs.Steps()
		for range 2 {
			ss, seq, bad := upkeep.Book(s)
			if !sameStates(ss, placed(snap)) || seq != snap || bad != api.OK {
				t.Errorf("Book = %v, %d, %d", ss, seq, bad)
			}
			clear(ss)
		}
		s.Append(5, place(90))
		if ss, seq, bad := upkeep.Book(s); !sameStates(ss, placed(snap)) || seq != snap || bad != api.OK {
			t.Errorf("behind a further event: Book = %v, %d, %d", ss, seq, bad)
		}
		if fs.Steps() != steps+1 {
			t.Errorf("Book makes steps")
		}
	}
	empty := stocked(0, 3, 2, 2)
	empty.files[bookFile(4)] = bookBytes(4, 3, nil)
	if ss, seq, bad := upkeep.Book(opened(t, empty.disk(t, 0), 2)); len(ss) != 0 || seq != 3 || bad != api.OK {
		t.Errorf("a book of no states: Book = %v, %d, %d", ss, seq, bad)
	}
}

// A manifest may name any book: what it names must be there, and of its number and seq.
func TestP20_2And3NoBookOfItsKind(t *testing.T) {
	right := bookBytes(4, 3, placed(3))
	turned := bytes.Clone(right)
	turned[len(turned)/2] ^= 1
	for what, b := range map[string][]byte{
		"no file":        nil,
		"an empty file":  {},
		"a turned bit":   turned,
		"a short one":    right[:len(right)-1],
		"a long one":     append(bytes.Clone(right), 0),
		"another number": bookBytes(3, 3, placed(3)),
		"a lesser seq":   bookBytes(4, 2, placed(3)),
		"a greater seq":  bookBytes(4, 4, placed(3)),
		"no seq that is": bookBytes(4, 1<<40, placed(3)),
	} {
		fs := stocked(0, 0, 2, 2).disk(t, 5000)
		s := opened(t, fs, 2)
		m := s.Manifest()
		m.Gen, m.Snap, m.SnapSeq = m.Gen+1, 4, 3
		if bad := s.Swap(m); bad != api.OK {
			t.Fatalf("Swap: %d", bad)
		}
		if b != nil {
			fs.Create(bookFile(4))
			fs.Append(bookFile(4), b)
		}
		for name, call := range calls() {
			want := api.ErrCorrupt
			if name == "Compact" {
				continue // it doesn't look into the book
			}
			refused(t, name+", "+what, s, want, func() api.Errno {
				zero, bad := call(s)
				if !zero {
					t.Errorf("%s, %s: results beside the error", name, what)
				}
				return bad
			})
		}
	}
}

func TestP20_3States(t *testing.T) {
	for snap := range 8 {
		fs := stocked(0, snap, 2, 2, 3).disk(t, 5000)
		s := opened(t, fs, 3)
		for range 2 {
			ss, bad := upkeep.States(s)
			if !sameStates(ss, placed(7)) || bad != api.OK {
				t.Errorf("with a book up to %d: States = %v, %d", snap, ss, bad)
			}
			clear(ss)
		}
		s.Append(5, place(3))
		s.Append(5, api.Event{Kind: api.Add, Order: 2, Item: 1, Qty: 2, Price: 3})
		s.Append(5, api.Event{Kind: api.Add, Order: 40})
		want := append(placed(7), api.State{Order: 40, Events: 1, Refused: 1})
		want[1].Events, want[1].Lines = 2, []api.Line{{Item: 1, Qty: 2, Price: 3}}
		want[2].Events, want[2].Refused = 2, 1
		steps := fs.Steps()
		if ss, bad := upkeep.States(s); !sameStates(ss, want) || bad != api.OK {
			t.Errorf("States = %v, %d, not %v", ss, bad, want)
		}
		if fs.Steps() != steps {
			t.Error("States makes steps")
		}
	}
	if ss, bad := upkeep.States(opened(t, simfs.New(100), 1)); len(ss) != 0 || bad != api.OK {
		t.Errorf("of a new store: States = %v, %d", ss, bad)
	}
}

// A sealed segment that was changed ahead of the opening: only where it holds an event above the book does it show.
func TestP20_3And4ReadsError(t *testing.T) {
	for snap := range 8 {
		x := stocked(0, snap, 2, 2, 3)
		x.files[file(7)][40] ^= 1 // in the frame of event 3
		s := opened(t, x.disk(t, 5000), 3)
		if snap >= 4 {
			if ss, bad := upkeep.States(s); !sameStates(ss, placed(7)) || bad != api.OK {
				t.Errorf("with a book up to %d: States = %v, %d", snap, ss, bad)
			}
			continue
		}
		for _, name := range []string{"States", "Snapshot"} {
			refused(t, name, s, api.ErrCorrupt, func() api.Errno {
				zero, bad := calls()[name](s)
				if !zero {
					t.Errorf("%s: results beside the error", name)
				}
				return bad
			})
		}
	}
}

func TestRule4StatesAreNewMemory(t *testing.T) {
	fs := simfs.New(5000)
	s := opened(t, fs, 4)
	s.Append(5, place(7))
	s.Append(5, api.Event{Kind: api.Add, Order: 7, Item: 1, Qty: 2, Price: 3})
	if upkeep.Snapshot(s) != api.OK {
		t.Fatal("Snapshot")
	}
	line := api.Line{Item: 1, Qty: 2, Price: 3}
	for range 2 {
		a, _, _ := upkeep.Book(s)
		b, _ := upkeep.States(s)
		for _, ss := range [][]api.State{a, b} {
			if len(ss) != 1 || !slices.Equal(ss[0].Lines, []api.Line{line}) {
				t.Fatalf("%v", ss)
			}
		}
		a[0].Lines[0].Qty = 9
		if b[0].Lines[0] != line {
			t.Error("two answers share their lines")
		}
		b[0].Lines[0].Qty = 8
	}
}

func TestRule6StoresNeverMeet(t *testing.T) {
	a, b := opened(t, simfs.New(5000), 2), opened(t, simfs.New(5000), 2)
	a.Append(5, place(1))
	b.Append(5, place(2))
	if upkeep.Snapshot(a) != api.OK {
		t.Fatal("Snapshot")
	}
	if ss, _ := upkeep.States(b); !sameStates(ss, []api.State{{Order: 2, Status: api.Open, Events: 1}}) || b.Manifest().Snap != 0 {
		t.Errorf("States of the other = %v", ss)
	}
	if n, bad := upkeep.Compact(b); n != 0 || bad != api.ErrNoSnap {
		t.Errorf("Compact of the other = %d, %d", n, bad)
	}
}
