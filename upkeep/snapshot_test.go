package upkeep_test

import (
	"fmt"
	"reflect"
	"slices"
	"strings"
	"testing"

	"daybook/api"
	"daybook/simfs"
	"daybook/store"
	"daybook/upkeep"
)

func TestP20_4Empty(t *testing.T) {
	for what, fs := range map[string]*simfs.FS{
		"a new store":          simfs.New(5000),
		"all is in the book":   stocked(0, 4, 2, 2).disk(t, 5000),
		"an empty active one":  stocked(0, 4, 2, 2, 0).disk(t, 5000),
		"all above the floor":  stocked(3, 3, 0).disk(t, 5000),
		"no room either":       stocked(3, 3, 0).disk(t, 0),
		"no further number":    numbered(stocked(0, 4, 2, 2), 1<<40, 1000000).disk(t, 5000),
		"and a corrupt sealed": corrupt(stocked(0, 5, 2, 2, 1)).disk(t, 5000),
	} {
		s := opened(t, fs, 3)
		refused(t, what, s, api.ErrEmpty, func() api.Errno { return upkeep.Snapshot(s) })
	}
	s := opened(t, simfs.New(5000), 3)
	s.Append(5, place(1))
	if bad := upkeep.Snapshot(s); bad != api.OK {
		t.Fatalf("Snapshot: %d", bad)
	}
	refused(t, "a second one", s, api.ErrEmpty, func() api.Errno { return upkeep.Snapshot(s) })
	s.Append(5, place(1)) // the order refuses it, but it is an event
	if bad := upkeep.Snapshot(s); bad != api.OK {
		t.Errorf("behind an event that was refused by its order: %d", bad)
	}
}

// numbered is a shop whose manifest has another Gen and Next.
func numbered(s shop, gen, next int) shop {
	s.m.Gen, s.m.Next = gen, next
	return s
}

// corrupt is a shop in whose first segment an event's bit is turned.
func corrupt(s shop) shop {
	s.files[file(5)][40] ^= 1
	return s
}

func TestP20_4Nums(t *testing.T) {
	for what, x := range map[string]struct {
		shop shop
		want api.Errno
	}{
		"the last number":              {numbered(stocked(0, 0, 2, 2), 8, 999999), api.OK},
		"none behind it":               {numbered(stocked(0, 0, 2, 2), 8, 1000000), api.ErrNums},
		"with a book":                  {numbered(stocked(0, 3, 2, 2), 8, 1000000), api.ErrNums},
		"the last Gen":                 {numbered(stocked(0, 0, 2, 2), 1<<40-1, 20), api.OK},
		"none behind that":             {numbered(stocked(0, 0, 2, 2), 1<<40, 20), api.ErrNums},
		"ahead of what can't be read":  {numbered(corrupt(stocked(0, 0, 2, 2)), 8, 1000000), api.ErrNums},
		"ahead of that, the other one": {numbered(corrupt(stocked(0, 0, 2, 2)), 1<<40, 20), api.ErrNums},
	} {
		s := opened(t, x.shop.disk(t, 5000), 3)
		if x.want != api.OK {
			refused(t, what, s, x.want, func() api.Errno { return upkeep.Snapshot(s) })
			crowd(t, s.Disk(), 0)
			refused(t, what+", without room", s, x.want, func() api.Errno { return upkeep.Snapshot(s) })
			continue
		}
		if bad := upkeep.Snapshot(s); bad != x.want {
			t.Errorf("%s: %d", what, bad)
		}
		if m := s.Manifest(); m.Snap != x.shop.m.Next || m.Next != x.shop.m.Next+1 || m.Gen != x.shop.m.Gen+1 || m.SnapSeq != 4 {
			t.Errorf("%s: the manifest is %v", what, m)
		}
	}
}

// wanted is how many bytes a snapshot of a shop of so many events lays: its book and its manifest.
func wanted(x shop, last int) int {
	m := x.m
	m.Snap, m.SnapSeq = m.Next, last
	b := bookBytes(m.Next, last, placed(last))
	m.Gen, m.Next = m.Gen+1, m.Next+1
	return len(b) + len(written(m))
}

func TestP20_4Room(t *testing.T) {
	for what, x := range map[string]shop{
		"without a book":         stocked(0, 0, 2, 2, 3),
		"with one":               stocked(2, 5, 2, 3),
		"a Gen that grows":       numbered(stocked(0, 0, 7), 8, 20),
		"a Next that grows":      numbered(stocked(0, 5, 7), 127, 127),
		"a Next of three bytes":  numbered(stocked(0, 5, 7), 127, 16383),
		"a manifest of two more": numbered(stocked(0, 5, 3, 4), 127, 127),
	} {
		need := wanted(x, 7)
		for less := -1; less <= 1; less++ {
			s := opened(t, x.disk(t, need-less), 9)
			if less <= 0 {
				if bad := upkeep.Snapshot(s); bad != api.OK {
					t.Errorf("%s, %d bytes too few: %d", what, less, bad)
				}
				continue
			}
			refused(t, what, s, api.ErrFull, func() api.Errno { return upkeep.Snapshot(s) })
		}
		s := opened(t, x.disk(t, 0), 9)
		refused(t, what, s, api.ErrFull, func() api.Errno { return upkeep.Snapshot(s) })
	}
	// Not to be read comes ahead of no room.
	s := opened(t, corrupt(stocked(0, 0, 2, 2)).disk(t, 0), 3)
	refused(t, "not to be read", s, api.ErrCorrupt, func() api.Errno { return upkeep.Snapshot(s) })
}

func TestP20_4Files(t *testing.T) {
	for count, want := range map[int]api.Errno{697: api.OK, 698: api.OK, 699: api.ErrFull, 700: api.ErrFull} {
		for _, snap := range []int{0, 3} {
			fs := stocked(0, snap, 2, 2).disk(t, 5000)
			s := opened(t, fs, 3)
			fill(t, fs, count)
			if want != api.OK {
				refused(t, fmt.Sprint(count, " files"), s, want, func() api.Errno { return upkeep.Snapshot(s) })
				continue
			}
			if bad := upkeep.Snapshot(s); bad != want {
				t.Errorf("%d files: %d", count, bad)
			}
		}
	}
}

// follow makes the same call on two disks that are alike, once by the program and once by the model, with the power failing in each step.
func follow(t *testing.T, what string, fs *simfs.FS, events int, history []api.Event, call func(s *store.Store) (int, api.Errno), step func(d *model) (int, api.Errno)) {
	t.Helper()
	for fuse := 0; fuse < 20; fuse++ {
		a, b := twin(t, fs), twin(t, fs)
		s, d := opened(t, a, events), &model{b, opened(t, b, events), history}
		for range 2 { // pending ones: the call must leave them, or make them safe
			s.Append(1, place(3))
			d.s.Append(1, place(3))
			d.events = append(slices.Clone(d.events), api.Event{Kind: api.Place, Order: 3, Who: "old"})
		}
		a.Fuse(fuse)
		b.Fuse(fuse)
		n, bad := call(s)
		m, want := step(d)
		if n != m || bad != want {
			t.Fatalf("%s, fuse %d: %d, %d, not %d, %d", what, fuse, n, bad, m, want)
		}
		if a.Steps() != b.Steps() || !reflect.DeepEqual(a.Image(), b.Image()) {
			t.Fatalf("%s, fuse %d: on the disk lie, behind %d steps, %v\nnot, behind %d, %v", what, fuse, a.Steps(), a.Image(), b.Steps(), b.Image())
		}
		if s.Last() != d.s.Last() || s.Floor() != d.s.Floor() || !same(s.Manifest(), d.s.Manifest()) || s.Closed() != d.s.Closed() {
			t.Fatalf("%s, fuse %d: the store has %v, not %v", what, fuse, s.Manifest(), d.s.Manifest())
		}
	}
}

// manyPlaced is the history of a shop.
func manyPlaced(n int) []api.Event {
	var es []api.Event
	for id := 1; id <= n; id++ {
		es = append(es, place(id))
	}
	return es
}

func TestP20_4TheSteps(t *testing.T) {
	for what, x := range map[string]shop{
		"without a book":      stocked(0, 0, 2, 2, 3),
		"with one":            stocked(2, 5, 2, 3),
		"one segment":         stocked(0, 0, 7),
		"an empty active one": stocked(0, 3, 3, 4, 0),
		"above a floor":       stocked(4, 4, 3),
	} {
		follow(t, what, x.disk(t, 5000), 9, manyPlaced(7),
			func(s *store.Store) (int, api.Errno) { return 0, upkeep.Snapshot(s) },
			func(d *model) (int, api.Errno) { return 0, d.snapshot() })
	}
}

// The former book goes, and no other file; what is in the new one outlives a loss of power, and so do the events.
func TestP20_4BehindIt(t *testing.T) {
	fs := simfs.New(9000)
	s := opened(t, fs, 2)
	fs.Create("book-000500") // not the store's business until it is opened anew
	var es []api.Event
	for i := 1; i <= 8; i++ {
		s.Append(5, place(i%5+1))
		es = append(es, place(i%5+1))
		before, _ := upkeep.States(s)
		if bad := upkeep.Snapshot(s); bad != api.OK {
			t.Fatalf("Snapshot %d: %d", i, bad)
		}
		m := s.Manifest()
		ss, seq, bad := upkeep.Book(s)
		if seq != i || bad != api.OK || !sameStates(ss, before) || !sameStates(ss, (&model{events: es}).states(i)) {
			t.Fatalf("Book = %v, %d, %d; not %v", ss, seq, bad, before)
		}
		want := []string{bookFile(m.Snap), "book-000500", "manifest"}
		for _, g := range m.Segs {
			want = append(want, file(g.Num))
		}
		slices.Sort(want)
		if !slices.Equal(fs.List(), want) {
			t.Fatalf("files: %v, not %v", fs.List(), want)
		}
		if m.Floor != 0 || s.Last() != i {
			t.Fatalf("Floor %d, Last %d", m.Floor, s.Last())
		}
		for _, x := range fs.Image() {
			if x.Safe != len(x.Data) {
				t.Fatalf("%s isn't safe", x.Name)
			}
		}
	}
}

// A file that another hand has laid where the book belongs: the call is refused, and has not even made the pending events safe.
func TestP20_1TheBooksNameIsTaken(t *testing.T) {
	fs := stocked(0, 3, 2, 2).disk(t, 5000)
	s := opened(t, fs, 9)
	s.Append(5, place(9))
	fs.Create(bookFile(s.Manifest().Next))
	refused(t, "the book's name is taken", s, api.ErrExists, func() api.Errno { return upkeep.Snapshot(s) })
	fs.Remove(bookFile(s.Manifest().Next))
	if bad := upkeep.Snapshot(s); bad != api.OK {
		t.Errorf("once it is gone: %d", bad)
	}
}

// largest is a state that no other one is larger than.
func largest(id int) api.State {
	s := api.State{Order: id, Status: api.Held, Prior: api.Paid, Cur: 3, Tax: 5000, Events: 1<<40 - 1, Refused: 1 << 39, Stamp: 1 << 40, Who: strings.Repeat("w", 16)}
	sum := 0
	for i := range 16 {
		s.Lines = append(s.Lines, api.Line{Item: 65520 + i, Price: 100000000, Qty: 100000, Shipped: 99999})
		sum += 100000 * 100000000
	}
	s.Paid = sum + sum/2
	s.Refunded = s.Paid
	return s
}

// With the room that the chapter names, however large the states and the manifest are.
func TestP20_8RoomEnoughForASnapshot(t *testing.T) {
	for _, orders := range []int{0, 1, 2, 50} {
		x := wide(t, 256, 1<<40-3000, 999998)
		var ss []api.State
		for i := range orders {
			ss = append(ss, largest(1<<40-50+i))
		}
		x.files[bookFile(x.m.Snap)] = bookBytes(x.m.Snap, x.m.SnapSeq, ss)
		fs := x.disk(t, 1<<20)
		s := opened(t, fs, 512)
		for i := range orders {
			s.Append(5, place(1<<40-50+i))
		}
		ss, bad := upkeep.States(s)
		if len(ss) != orders+1 || bad != api.OK { // one is placed in the segments
			t.Fatalf("States: %d, %d", len(ss), bad)
		}
		fill(t, fs, 697)
		crowd(t, fs, 10000+1100*len(ss))
		if bad := upkeep.Snapshot(s); bad != api.OK || len(fs.List()) != 698 {
			t.Errorf("%d orders: Snapshot: %d, %d files", orders, bad, len(fs.List()))
		}
	}
}
