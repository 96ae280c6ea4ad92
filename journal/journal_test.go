package journal_test

import (
	"errors"
	"math"
	"reflect"
	"slices"
	"testing"

	"daybook/api"
	"daybook/fault"
	"daybook/journal"
	"daybook/simfs"
	"daybook/store"
	"daybook/upkeep"
)

func TestP21Example1And2(t *testing.T) {
	j := opened(t, simfs.New(4000), 4, 8)
	if n, bad := j.Append(1, place(7)); n != 1 || bad != api.OK {
		t.Errorf("Append = %d, %d", n, bad)
	}
	if n, bad := j.Append(1, api.Event{Kind: api.Add, Order: 7, Item: 3, Qty: 2, Price: 5}); n != 2 || bad != api.OK {
		t.Errorf("Append = %d, %d", n, bad)
	}
	want := api.State{Order: 7, Status: api.Open, Lines: []api.Line{{Item: 3, Price: 500, Qty: 2}}, Events: 2, Who: "old"}
	if s, bad := j.Load(7); !sameState(s, want) || bad != api.OK {
		t.Errorf("Load(7) = %v, %d", s, bad)
	}
	if s, bad := j.Load(8); !sameState(s, api.State{Order: 8}) || bad != api.OK {
		t.Errorf("Load(8) = %v, %d", s, bad)
	}
	if s, bad := j.Load(0); !sameState(s, api.State{}) || bad != api.ErrArg || j.Err().Error() != "journal: load at 0: argument" {
		t.Errorf("Load(0) = %v, %d; %v", s, bad, j.Err())
	}
	if bad := j.Snapshot(); bad != api.OK {
		t.Errorf("Snapshot: %d", bad)
	}
	if n, bad := j.Compact(); n != 1 || bad != api.OK {
		t.Errorf("Compact = %d, %d", n, bad)
	}
	if rs, bad := j.Replay(2); len(rs) != 0 || bad != api.ErrCompacted {
		t.Errorf("Replay(2) = %v, %d", rs, bad)
	}
	if s, bad := j.Load(7); !sameState(s, want) || bad != api.OK || j.Cost() != 0 {
		t.Errorf("Load(7) = %v, %d, Cost %d", s, bad, j.Cost())
	}
}

func TestP21_1StoresErrors(t *testing.T) {
	dark := simfs.New(1000)
	off(dark)
	right := api.Config{Stride: 2, SegEvents: 2}
	for what, x := range map[string]struct {
		fs   *simfs.FS
		cfg  api.Config
		want api.Errno
	}{
		"no disk":            {nil, right, api.ErrArg},
		"no stride":          {simfs.New(1000), api.Config{SegEvents: 2}, api.ErrArg},
		"no events":          {simfs.New(1000), api.Config{Stride: 2}, api.ErrArg},
		"a stride too great": {simfs.New(1000), api.Config{Stride: 65, SegEvents: 2}, api.ErrArg},
		"the power is off":   {dark, right, api.ErrDown},
		"no room":            {simfs.New(50), right, api.ErrFull},
		"a broken manifest":  {turned(t, stocked(t, 2, 0, 0, 2, 2), "manifest", 20, 1), right, api.ErrCorrupt},
		"a broken book":      {turned(t, stocked(t, 2, 0, 3, 2, 2), "book-000003", 30, 1), right, api.ErrCorrupt},
	} {
		steps := x.fs.Steps()
		if j, bad := journal.Open(x.fs, x.cfg); j != nil || bad != x.want || x.fs.Steps() != steps {
			t.Errorf("%s: Open = %v, %d, not %d", what, j, bad, x.want)
		}
	}
	for fuse := 1; fuse <= 8; fuse++ {
		fs := simfs.New(1000)
		fs.Fuse(fuse)
		j, bad := journal.Open(fs, right)
		if fuse < 8 && (j != nil || bad != api.ErrDown) || fuse == 8 && (j == nil || bad != api.OK) {
			t.Errorf("the power fails in step %d: Open = %v, %d", fuse, j, bad)
		}
	}
}

// What an opening does is what the store's does, and no step more.
func TestP21_1JustTheStoresSteps(t *testing.T) {
	for _, fs := range []*simfs.FS{simfs.New(1000), stocked(t, 2, 0, 3, 2, 2), stocked(t, 2, 3, 3, 2, 0)} {
		files := append(fs.Image(), api.File{Name: "manifest.tmp", Data: []byte{1}}, api.File{Name: "seg-000900"})
		a, b := mounted(t, 900, slices.Clone(files)), mounted(t, 900, slices.Clone(files))
		j := opened(t, a, 2, 2)
		s, bad := store.Open(b, api.Config{Stride: 2, SegEvents: 2})
		if bad != api.OK {
			t.Fatalf("Open: %d", bad)
		}
		if a.Steps() != b.Steps() || !reflect.DeepEqual(a.Image(), b.Image()) || !reflect.DeepEqual(j.Manifest(), s.Manifest()) || j.Last() != s.Last() || j.Disk() != a {
			t.Errorf("another store")
		}
		if j.Err() != nil || j.Cost() != 0 || j.Closed() {
			t.Errorf("Err %v, Cost %d", j.Err(), j.Cost())
		}
	}
}

func TestP21_1WhatOpenReads(t *testing.T) {
	disks := map[string]*simfs.FS{
		"new":                    simfs.New(1000),
		"a great book":           stocked(t, 2, 2000, 2000, 0),
		"a great active segment": stocked(t, 2, 0, 0, 500),
		"both":                   stocked(t, 2, 2000, 2300, 500),
		"many sealed":            stocked(t, 1, 0, 20, slices.Repeat([]int{1}, 256)...),
		"great sealed ones":      stocked(t, 1, 0, 900, 500, 500, 500, 3),
		"a small book":           stocked(t, 1, 5, 6, 2),
		"strays": mounted(t, 900, append(stocked(t, 2, 0, 3, 2, 2).Image(),
			api.File{Name: "book-000099", Data: make([]byte, 999)}, api.File{Name: "manifest.tmp", Data: []byte{1}})),
	}
	for what, fs := range disks {
		used, read := fs.Used(), fs.ReadBytes()
		opened(t, fs, 2, 9)
		if n := fs.ReadBytes() - read; n > 4*used+100 {
			t.Errorf("%s: %d bytes read of %d", what, n, used)
		}
	}
}

// The states of the book are there behind an opening: no Load goes through an event that it takes in.
func TestP21_1TheStatesOfItsBook(t *testing.T) {
	for floor := range 7 {
		for snap := floor; snap <= 7; snap++ {
			fs := stocked(t, 1, floor, snap, 7-floor)
			j := opened(t, fs, 1, 9)
			read := fs.ReadBytes()
			if j.Load(1); snap == 7 && fs.ReadBytes() != read {
				t.Errorf("floor %d: the first Load reads the book", floor)
			}
			for id := 1; id <= 8; id++ {
				want := api.State{Order: id, Status: api.Open, Events: 1}
				if id == 8 {
					want = api.State{Order: id}
				}
				if s, bad := j.Load(id); !sameState(s, want) || bad != api.OK || j.Cost() != 7-snap {
					t.Errorf("floor %d, book to %d: Load(%d) = %v, %d, Cost %d", floor, snap, id, s, bad, j.Cost())
				}
			}
		}
	}
}

// twins is a journal, and a store, over disks that are alike.
func twins(t *testing.T, files []api.File, free int) (*journal.Journal, *store.Store) {
	t.Helper()
	j := opened(t, mounted(t, free, slices.Clone(files)), 2, 3)
	s, bad := store.Open(mounted(t, free, slices.Clone(files)), api.Config{Stride: 2, SegEvents: 3})
	if bad != api.OK {
		t.Fatalf("Open: %d", bad)
	}
	return j, s
}

// Each of these calls is the store's or upkeep's: the answers, the disk and the steps are the same, whether the power fails or not.
func TestP21_2TheStoresCalls(t *testing.T) {
	type answer struct {
		n   int
		rs  []api.Record
		bad api.Errno
	}
	calls := map[string]struct {
		of   func(j *journal.Journal) answer
		want func(s *store.Store) answer
	}{
		"Append": {
			func(j *journal.Journal) answer { n, bad := j.Append(1, place(9)); return answer{n: n, bad: bad} },
			func(s *store.Store) answer { n, bad := s.Append(1, place(9)); return answer{n: n, bad: bad} },
		},
		"Append of no version": {
			func(j *journal.Journal) answer { n, bad := j.Append(6, place(9)); return answer{n: n, bad: bad} },
			func(s *store.Store) answer { n, bad := s.Append(6, place(9)); return answer{n: n, bad: bad} },
		},
		"Put": {
			func(j *journal.Journal) answer { n, bad := j.Put([]byte{5, 2, 1, 4, 7}); return answer{n: n, bad: bad} },
			func(s *store.Store) answer { n, bad := s.Put([]byte{5, 2, 1, 4, 7}); return answer{n: n, bad: bad} },
		},
		"Put of nothing": {
			func(j *journal.Journal) answer { n, bad := j.Put(nil); return answer{n: n, bad: bad} },
			func(s *store.Store) answer { n, bad := s.Put(nil); return answer{n: n, bad: bad} },
		},
		"Sync": {
			func(j *journal.Journal) answer { return answer{bad: j.Sync()} },
			func(s *store.Store) answer { return answer{bad: s.Sync()} },
		},
		"Rotate": {
			func(j *journal.Journal) answer { return answer{bad: j.Rotate()} },
			func(s *store.Store) answer { return answer{bad: s.Rotate()} },
		},
		"Close": {
			func(j *journal.Journal) answer { return answer{bad: j.Close()} },
			func(s *store.Store) answer { return answer{bad: s.Close()} },
		},
		"Snapshot": {
			func(j *journal.Journal) answer { return answer{bad: j.Snapshot()} },
			func(s *store.Store) answer { return answer{bad: upkeep.Snapshot(s)} },
		},
		"Compact": {
			func(j *journal.Journal) answer { n, bad := j.Compact(); return answer{n: n, bad: bad} },
			func(s *store.Store) answer { n, bad := upkeep.Compact(s); return answer{n: n, bad: bad} },
		},
		"Replay": {
			func(j *journal.Journal) answer { rs, bad := j.Replay(3); return answer{rs: rs, bad: bad} },
			func(s *store.Store) answer { rs, bad := s.Read(3); return answer{rs: rs, bad: bad} },
		},
		"Replay of nothing": {
			func(j *journal.Journal) answer { rs, bad := j.Replay(99); return answer{rs: rs, bad: bad} },
			func(s *store.Store) answer { rs, bad := s.Read(99); return answer{rs: rs, bad: bad} },
		},
	}
	disks := map[string][]api.File{
		"new":               opened(t, simfs.New(1000), 1, 1).Disk().Image(),
		"events":            stocked(t, 2, 0, 0, 2, 3).Image(),
		"a book":            stocked(t, 2, 0, 3, 2, 2, 2).Image(),
		"all in a book":     stocked(t, 2, 0, 4, 2, 2).Image(),
		"above a floor":     stocked(t, 2, 2, 4, 2, 2).Image(),
		"an empty last one": stocked(t, 2, 2, 4, 2, 0).Image(),
	}
	for name, call := range calls {
		for which, files := range disks {
			for _, free := range []int{0, 60, 5000} {
				for fuse := range 12 {
					j, s := twins(t, files, free)
					a, b := j.Disk(), s.Disk()
					a.Fuse(fuse)
					b.Fuse(fuse)
					got, want := call.of(j), call.want(s)
					if got.n != want.n || got.bad != want.bad || !slices.Equal(got.rs, want.rs) {
						t.Fatalf("%s, %s, %d bytes free, fuse %d: %v, not %v", name, which, free, fuse, got, want)
					}
					if a.Steps() != b.Steps() || !reflect.DeepEqual(a.Image(), b.Image()) {
						t.Fatalf("%s, %s, %d bytes free, fuse %d: another disk", name, which, free, fuse)
					}
					if j.Last() != s.Last() || j.Floor() != s.Floor() || !reflect.DeepEqual(j.Manifest(), s.Manifest()) || j.Closed() != s.Closed() || j.Decoded() != s.Decoded() {
						t.Fatalf("%s, %s, %d bytes free, fuse %d: another store", name, which, free, fuse)
					}
				}
			}
		}
	}
}

func TestP21_3Errors(t *testing.T) {
	wrong := []int{math.MinInt, -1, 0, 1<<40 + 1, math.MaxInt}
	for _, id := range append([]int{1, 1 << 40}, wrong...) {
		j := opened(t, stocked(t, 2, 0, 3, 2, 2), 2, 3)
		if s, bad := j.Load(id); slices.Contains(wrong, id) != (bad == api.ErrArg) || bad != api.OK && !sameState(s, api.State{}) {
			t.Errorf("Load(%d) = %v, %d", id, s, bad)
		}
		off(j.Disk())
		if s, bad := j.Load(id); bad != api.ErrDown || !sameState(s, api.State{}) || !j.Closed() {
			t.Errorf("without power: Load(%d) = %v, %d", id, s, bad)
		}
		if s, bad := j.Load(id); bad != api.ErrClosed || !sameState(s, api.State{}) {
			t.Errorf("closed: Load(%d) = %v, %d", id, s, bad)
		}
	}
	// An event that is not in the book can't be read; ErrArg comes ahead of that.
	j := opened(t, turned(t, stocked(t, 2, 0, 1, 2, 2), "seg-000001", 60, 1), 2, 3)
	if s, bad := j.Load(4); bad != api.ErrCorrupt || !sameState(s, api.State{}) {
		t.Errorf("corrupt: Load(4) = %v, %d", s, bad)
	}
	if s, bad := j.Load(0); bad != api.ErrArg || !sameState(s, api.State{}) {
		t.Errorf("corrupt: Load(0) = %v, %d", s, bad)
	}
	j = opened(t, turned(t, stocked(t, 2, 0, 2, 2, 2), "seg-000001", 60, 1), 2, 3)
	if s, bad := j.Load(2); bad != api.OK || s.Events != 1 {
		t.Errorf("corrupt, but in the book: Load(2) = %v, %d", s, bad)
	}
}

func TestP21_3AllEvents(t *testing.T) {
	j := opened(t, simfs.New(9000), 2, 3)
	l := list{}
	for i, e := range []api.Event{
		place(7), place(8), place(7),
		{Kind: api.Add, Order: 8, Item: 2, Qty: 3, Price: 10}, {Kind: api.Add, Order: 7, Item: 1, Qty: 1, Price: 5},
		{Kind: api.Pay, Order: 8, Price: 30}, {Kind: api.Ship, Order: 8, Item: 2, Qty: 1}, {Kind: api.Ship, Order: 5},
		{Kind: api.Ship, Order: 8, Item: 2, Qty: 2}, {Kind: api.Cancel, Order: 7}, place(1 << 40),
	} {
		e.Stamp = i + 1
		if n, bad := j.Append(5, e); n != i+1 || bad != api.OK {
			t.Fatalf("Append = %d, %d", n, bad)
		}
		l = append(l, e)
		l.hold(t, "behind an event", j)
		if i == 4 || i == 7 {
			if bad := j.Snapshot(); bad != api.OK {
				t.Fatalf("Snapshot: %d", bad)
			}
			l.hold(t, "behind a snapshot", j)
		}
		if i == 5 || i == 8 {
			if n, bad := j.Compact(); n == 0 || bad != api.OK {
				t.Fatalf("Compact = %d, %d", n, bad)
			}
			l.hold(t, "behind a compaction", j)
		}
	}
	if s, _ := j.Load(8); s.Status != api.Sent || s.Paid != 30 || s.Stamp != 9 {
		t.Errorf("Load(8) = %v", s)
	}
}

// Pending events that a loss of power has taken are no more in any state.
func TestP21_3BehindALossOfPower(t *testing.T) {
	fs := simfs.New(9000)
	j := opened(t, fs, 2, 3)
	j.Append(5, place(7))
	j.Sync()
	j.Append(5, place(7))
	j.Append(5, place(8))
	fs.Restart([]int{0, 25})
	j = opened(t, fs, 2, 3)
	list{place(7), place(7)}.hold(t, "one was kept", j)
	j.Append(5, place(9))
	list{place(7), place(7), place(9)}.hold(t, "and it goes on", j)
}

// A snapshot that is taken past the journal, over its store, is not missed.
func TestP21_3ABookOfAnotherHand(t *testing.T) {
	j := opened(t, simfs.New(9000), 2, 2)
	l := list{}
	for id := 1; id <= 5; id++ {
		j.Append(5, place(id%3+1))
		l = append(l, place(id%3+1))
		if bad := upkeep.Snapshot(j.Store); bad != api.OK {
			t.Fatalf("Snapshot: %d", bad)
		}
		if _, bad := upkeep.Compact(j.Store); bad != api.OK {
			t.Fatalf("Compact: %d", bad)
		}
		l.hold(t, "behind it", j)
	}
}

func TestP21_4Each(t *testing.T) {
	j := opened(t, stocked(t, 2, 2, 3, 2, 3), 2, 3)
	for from := 3; from <= 8; from++ {
		var got []api.Record
		for n, e := range j.Each(from) {
			got = append(got, api.Record{Seq: n, Event: e})
		}
		want, bad := j.Replay(from)
		if !slices.Equal(got, want) || bad != api.OK || len(got) != 8-from {
			t.Errorf("Each(%d) goes through %v", from, got)
		}
	}
	if j.Err() != nil {
		t.Errorf("Err: %v", j.Err())
	}
}

func TestP21_4LeftEarly(t *testing.T) {
	j := opened(t, stocked(t, 2, 2, 3, 2, 3), 2, 3)
	for most := 1; most <= 5; most++ {
		each, seen := j.Each(3), 0
		for range 2 {
			seen = 0
			for n := range each {
				if seen++; n != 2+seen {
					t.Errorf("the number %d, not %d", n, 2+seen)
				}
				if seen == most {
					break
				}
			}
			if seen != most {
				t.Errorf("%d gone through, not %d", seen, most)
			}
		}
	}
}

// What is gone through is what is there when it is begun, each time.
func TestP21_4AgainEachTime(t *testing.T) {
	j := opened(t, simfs.New(9000), 2, 3)
	each := j.Each(1)
	count := func() int {
		n := 0
		for seq, e := range each {
			if n++; seq != n || e.Order != n {
				t.Errorf("%d: %v", seq, e)
			}
		}
		return n
	}
	for n := range 5 {
		if got := count(); got != n {
			t.Errorf("%d gone through, not %d", got, n)
		}
		j.Append(5, place(n+1))
	}
	seen := 0
	for n := range each { // what is appended while it is gone through isn't in it
		seen++
		j.Append(5, place(6+n))
	}
	if seen != 5 || j.Last() != 10 {
		t.Errorf("%d gone through, Last %d", seen, j.Last())
	}
	for range each { // closed in the midst: the rest is there all the same
		seen++
		j.Close()
	}
	if seen != 15 || !j.Closed() {
		t.Errorf("%d gone through", seen)
	}
}

func TestP21_4OverNothing(t *testing.T) {
	for from, want := range map[int]api.Errno{0: api.ErrArg, -1: api.ErrArg, 9: api.ErrArg, math.MinInt: api.ErrArg, math.MaxInt: api.ErrArg, 1: api.ErrCompacted, 2: api.ErrCompacted, 8: api.OK} {
		j := opened(t, stocked(t, 2, 2, 3, 2, 3), 2, 3)
		each := j.Each(from)
		if j.Err() != nil {
			t.Errorf("Each(%d) alone is refused: %v", from, j.Err())
		}
		for n, e := range each {
			t.Errorf("Each(%d) gives %d, %v", from, n, e)
		}
		if fault.Code(j.Err()) != want {
			t.Errorf("Each(%d): %v", from, j.Err())
		}
		if want != api.OK && j.Err().Error() != fault.Wrap("journal", fault.New("replay", from, want)).Error() {
			t.Errorf("Each(%d): %v", from, j.Err())
		}
	}
	j := opened(t, turned(t, stocked(t, 2, 0, 0, 2, 2), "seg-000001", 30, 1), 2, 3)
	for n := range j.Each(1) {
		t.Errorf("it gives %d, though the segment is corrupt", n)
	}
	for n := range j.Each(3) {
		if j.Close(); n == 3 {
			break
		}
	}
	for n := range j.Each(3) {
		t.Errorf("it gives %d, though the journal is closed", n)
	}
	if j.Err().Error() != "journal: replay at 3: closed" {
		t.Errorf("%v", j.Err())
	}
}

func TestP21_5Orders(t *testing.T) {
	j := opened(t, simfs.New(9000), 2, 3)
	if ids, bad := j.Orders(); len(ids) != 0 || bad != api.OK {
		t.Errorf("Orders = %v, %d", ids, bad)
	}
	for _, id := range []int{9, 1 << 40, 3, 9, 5, 1} {
		j.Append(5, place(id))
	}
	j.Append(5, api.Event{Kind: api.Ship, Order: 4}) // refused by the order, and counted
	want := []int{1, 3, 4, 5, 9, 1 << 40}
	for range 2 {
		ids, bad := j.Orders()
		if !slices.Equal(ids, want) || bad != api.OK {
			t.Errorf("Orders = %v, %d", ids, bad)
		}
		clear(ids)
		j.Snapshot()
		j.Compact()
	}
	j = opened(t, turned(t, stocked(t, 2, 0, 0, 2, 2), "seg-000001", 30, 1), 2, 3)
	if ids, bad := j.Orders(); len(ids) != 0 || bad != api.ErrCorrupt || j.Err().Error() != "journal: orders: corrupt" {
		t.Errorf("corrupt: Orders = %v, %d, %v", ids, bad, j.Err())
	}
	off(j.Disk())
	if ids, bad := j.Orders(); len(ids) != 0 || bad != api.ErrDown || !j.Closed() {
		t.Errorf("without power: Orders = %v, %d", ids, bad)
	}
	if ids, bad := j.Orders(); len(ids) != 0 || bad != api.ErrClosed {
		t.Errorf("closed: Orders = %v, %d", ids, bad)
	}
}

func TestP21_6Cost(t *testing.T) {
	for _, stride := range []int{1, 2, 3, 4, 7} {
		for snap := range 13 {
			fs := stocked(t, stride, 0, snap, 5, 6, 1) // sealed by that stride
			j := opened(t, fs, 64, 9)
			if j.Cost() != 0 {
				t.Errorf("Cost %d ahead of the first Load", j.Cost())
			}
			mark := 1 + snap/stride*stride // from where on events are gone through
			if snap >= 5 {
				mark = 6 + (snap-5)/stride*stride
			}
			if snap >= 11 {
				mark = snap + 1 // the active one has one event
			}
			if _, bad := j.Load(3); bad != api.OK || j.Cost() != 13-mark || j.Cost() > 12-snap+stride-1 {
				t.Errorf("stride %d, book to %d: Load: %d, Cost %d, not %d", stride, snap, bad, j.Cost(), 13-mark)
			}
		}
	}
}

// Cost is of the last Load that answered OK, whatever else is called.
func TestP21_6TheLastLoadThatWentWell(t *testing.T) {
	j := opened(t, simfs.New(9000), 1, 9)
	for n := range 4 {
		if _, bad := j.Load(1); bad != api.OK || j.Cost() != n {
			t.Errorf("%d events: Load: %d, Cost %d", n, bad, j.Cost())
		}
		j.Append(5, place(1))
		for what, call := range map[string]func(){
			"Load(0)":    func() { j.Load(0) },
			"Replay(1)":  func() { j.Replay(1) },
			"Replay(99)": func() { j.Replay(99) },
			"Read":       func() { j.Read(1) },
			"Orders":     func() { j.Orders() },
			"Each": func() {
				for range j.Each(1) {
				}
			},
			"Sync": func() { j.Sync() },
		} {
			if call(); j.Cost() != n {
				t.Errorf("behind %s Cost is %d, not %d", what, j.Cost(), n)
			}
		}
	}
	j.Snapshot()
	if j.Cost() != 3 {
		t.Errorf("behind a Snapshot Cost is %d", j.Cost())
	}
	j.Close()
	if _, bad := j.Load(1); bad != api.ErrClosed || j.Cost() != 3 {
		t.Errorf("Load: %d, Cost %d", bad, j.Cost())
	}
}

func TestP21_7EachCall(t *testing.T) {
	for _, x := range []struct {
		text string
		op   string
		at   int
		code api.Errno
		call func(j *journal.Journal)
	}{
		{"journal: append: version", "append", -1, api.ErrVersion, func(j *journal.Journal) { j.Append(6, place(1)) }},
		{"journal: append: field", "append", -1, api.ErrField, func(j *journal.Journal) { j.Append(5, place(0)) }},
		{"journal: put: ends early", "put", -1, api.ErrShort, func(j *journal.Journal) { j.Put(nil) }},
		{"journal: rotate: empty", "rotate", -1, api.ErrEmpty, func(j *journal.Journal) { j.Rotate() }},
		{"journal: snapshot: empty", "snapshot", -1, api.ErrEmpty, func(j *journal.Journal) { j.Snapshot() }},
		{"journal: compact: no snapshot", "compact", -1, api.ErrNoSnap, func(j *journal.Journal) { j.Compact() }},
		{"journal: load at 0: argument", "load", 0, api.ErrArg, func(j *journal.Journal) { j.Load(0) }},
		{"journal: load: argument", "load", -3, api.ErrArg, func(j *journal.Journal) { j.Load(-3) }},
		{"journal: load at 1099511627777: argument", "load", 1<<40 + 1, api.ErrArg, func(j *journal.Journal) { j.Load(1<<40 + 1) }},
		{"journal: replay at 0: argument", "replay", 0, api.ErrArg, func(j *journal.Journal) { j.Replay(0) }},
		{"journal: replay: argument", "replay", -7, api.ErrArg, func(j *journal.Journal) { j.Replay(-7) }},
		{"journal: replay at 2: argument", "replay", 2, api.ErrArg, func(j *journal.Journal) {
			for range j.Each(2) {
			}
		}},
	} {
		j := opened(t, simfs.New(9000), 2, 3)
		x.call(j)
		told(t, j, x.text, x.op, x.at, x.code)
	}
	closed := map[string]func(j *journal.Journal){
		"journal: append: closed":      func(j *journal.Journal) { j.Append(5, place(1)) },
		"journal: put: closed":         func(j *journal.Journal) { j.Put([]byte{5, 2, 1, 4, 7}) },
		"journal: sync: closed":        func(j *journal.Journal) { j.Sync() },
		"journal: rotate: closed":      func(j *journal.Journal) { j.Rotate() },
		"journal: close: closed":       func(j *journal.Journal) { j.Close() },
		"journal: snapshot: closed":    func(j *journal.Journal) { j.Snapshot() },
		"journal: compact: closed":     func(j *journal.Journal) { j.Compact() },
		"journal: load at 7: closed":   func(j *journal.Journal) { j.Load(7) },
		"journal: replay at 1: closed": func(j *journal.Journal) { j.Replay(1) },
		"journal: orders: closed":      func(j *journal.Journal) { j.Orders() },
	}
	for text, call := range closed {
		j := opened(t, simfs.New(9000), 2, 3)
		if j.Close(); j.Err() != nil {
			t.Errorf("a Close that went well: %v", j.Err())
		}
		if call(j); j.Err() == nil || j.Err().Error() != text {
			t.Errorf("%v, not %s", j.Err(), text)
		}
		j = opened(t, simfs.New(9000), 2, 3)
		off(j.Disk())
		want := text[:len(text)-len("closed")] + "power off"
		if call(j); j.Err() == nil || j.Err().Error() != want {
			t.Errorf("%v, not %s", j.Err(), want)
		}
	}
}

// told holds what is told of the last refusal to its parts.
func told(t *testing.T, j *journal.Journal, text, op string, at int, code api.Errno) {
	t.Helper()
	err := j.Err()
	if err == nil || err.Error() != text {
		t.Errorf("Err: %v, not %s", err, text)
		return
	}
	outer, inner := new(fault.Fault), new(fault.Fault)
	if !errors.As(err, &outer) || !errors.As(outer.Unwrap(), &inner) {
		t.Errorf("%s: no fault within a fault", text)
		return
	}
	if outer.Op != "journal" || outer.At != -1 || inner.Op != op || inner.At != at || inner.Unwrap() != fault.Sentinel(code) || fault.Code(err) != code || !slices.Equal(fault.Path(err), []string{"journal", op}) {
		t.Errorf("%s: %v, %v", text, outer, inner)
	}
}

// A call that goes well leaves it, and so do the calls that are not among those; the next refusal takes its place.
func TestP21_7WhatLeavesIt(t *testing.T) {
	j := opened(t, stocked(t, 2, 2, 3, 2, 3), 2, 9)
	hold := func(want string) {
		t.Helper()
		j.Append(5, place(1))
		j.Put([]byte{5, 2, 1, 4, 7})
		j.Sync()
		j.Rotate()
		j.Load(1)
		j.Replay(7)
		j.Orders()
		for range j.Each(7) {
		}
		j.Append(5, place(2))
		if j.Snapshot() != api.OK {
			t.Error("Snapshot")
		}
		if _, bad := j.Compact(); bad != api.OK {
			t.Errorf("Compact: %d", bad)
		}
		for range 2 {
			j.Append(5, place(1))
		}
		j.Read(0)
		j.Swap(api.Manifest{})
		j.Alive()
		j.Each(-1)
		j.Cost()
		switch {
		case want == "" && j.Err() != nil:
			t.Errorf("Err: %v", j.Err())
		case want != "" && (j.Err() == nil || j.Err().Error() != want):
			t.Errorf("Err: %v, not %s", j.Err(), want)
		}
	}
	hold("")
	j = opened(t, stocked(t, 2, 2, 3, 2, 3), 2, 9)
	j.Append(9, place(1))
	hold("journal: append: version")
	if bad := j.Close(); bad != api.OK || j.Err().Error() != "journal: append: version" {
		t.Errorf("Close: %d, %v", bad, j.Err())
	}
}

func TestP21_7TheLastOne(t *testing.T) {
	j := opened(t, stocked(t, 2, 2, 3, 2, 3), 2, 9)
	j.Load(0)
	j.Replay(1)
	if j.Err().Error() != "journal: replay at 1: compacted" {
		t.Errorf("Err: %v", j.Err())
	}
	j.Load(-1)
	if j.Err().Error() != "journal: load: argument" {
		t.Errorf("Err: %v", j.Err())
	}
	if other := opened(t, simfs.New(9000), 2, 3); other.Err() != nil {
		t.Errorf("of another journal: %v", other.Err())
	}
}

func TestRule4ErrIsNewMemory(t *testing.T) {
	j := opened(t, simfs.New(9000), 2, 3)
	j.Load(0)
	outer, inner := new(fault.Fault), new(fault.Fault)
	if !errors.As(j.Err(), &outer) || !errors.As(outer.Unwrap(), &inner) {
		t.Fatal("no fault within a fault")
	}
	outer.Op, inner.Op, inner.At = "another", "another", 5
	told(t, j, "journal: load at 0: argument", "load", 0, api.ErrArg)
}

func TestRule4LoadIsNewMemory(t *testing.T) {
	j := opened(t, simfs.New(9000), 2, 3)
	j.Append(5, place(7))
	j.Append(5, api.Event{Kind: api.Add, Order: 7, Item: 1, Qty: 2, Price: 3})
	for range 2 {
		for range 2 {
			s, bad := j.Load(7)
			if bad != api.OK || !slices.Equal(s.Lines, []api.Line{{Item: 1, Qty: 2, Price: 3}}) {
				t.Fatalf("Load = %v, %d", s, bad)
			}
			s.Lines[0].Qty = 9
		}
		j.Snapshot()
	}
	raw := packed(5, place(9))
	j.Put(raw)
	clear(raw)
	if s, _ := j.Load(9); s.Events != 1 {
		t.Errorf("Load = %v", s)
	}
}

// The zero journal has no store: its calls are refused like those of a nil store.
func TestRule1TheZeroJournal(t *testing.T) {
	j := new(journal.Journal)
	if j.Err() != nil || j.Cost() != 0 || j.Last() != 0 || !j.Closed() || j.Disk() != nil {
		t.Errorf("the zero journal isn't closed")
	}
	if n, bad := j.Append(5, place(1)); n != 0 || bad != api.ErrArg {
		t.Errorf("Append = %d, %d", n, bad)
	}
	if n, bad := j.Put(packed(5, place(1))); n != 0 || bad != api.ErrArg {
		t.Errorf("Put = %d, %d", n, bad)
	}
	if n, bad := j.Compact(); n != 0 || bad != api.ErrArg {
		t.Errorf("Compact = %d, %d", n, bad)
	}
	for what, bad := range map[string]api.Errno{"Sync": j.Sync(), "Rotate": j.Rotate(), "Close": j.Close(), "Snapshot": j.Snapshot()} {
		if bad != api.ErrArg {
			t.Errorf("%s: %d", what, bad)
		}
	}
	if s, bad := j.Load(1); !sameState(s, api.State{}) || bad != api.ErrArg {
		t.Errorf("Load = %v, %d", s, bad)
	}
	if ids, bad := j.Orders(); len(ids) != 0 || bad != api.ErrArg {
		t.Errorf("Orders = %v, %d", ids, bad)
	}
	for n := range j.Each(1) {
		t.Errorf("Each gives %d", n)
	}
	if j.Err().Error() != "journal: replay at 1: argument" {
		t.Errorf("Err: %v", j.Err())
	}
}
