package upkeep_test

import (
	"fmt"
	"slices"
	"testing"

	"daybook/api"
	"daybook/segment"
	"daybook/simfs"
	"daybook/store"
	"daybook/upkeep"
)

// wide is a shop of so many segments, of one event each, behind a floor, the active one's number given; there is a book of the first event.
func wide(t *testing.T, count, floor, num int) shop {
	t.Helper()
	s := shop{m: api.Manifest{Gen: 1<<40 - 9, Next: num + 1, Floor: floor, Snap: num - count, SnapSeq: floor + 1}, files: map[string][]byte{}}
	for i := range count {
		g := api.Seg{Num: num - count + 1 + i, First: floor + 1 + i}
		b := framed(api.HeaderFrame, g.Num, numbers(g.Num, g.First))
		if i < count-1 {
			b = append(b, framed(api.EventFrame, g.First, []byte{5, 2, 1, 4, 7})...)
			g.Count, g.Foot = 1, len(b)
			foot, bad := segment.Footer(b, 64)
			if bad != api.OK {
				t.Fatal(bad)
			}
			b = append(b, foot...)
		}
		s.m.Segs = append(s.m.Segs, g)
		s.files[file(g.Num)] = b
	}
	s.files[bookFile(s.m.Snap)] = bookBytes(s.m.Snap, s.m.SnapSeq, []api.State{{Order: 7, Status: api.Open, Events: 1}})
	return s
}

func TestP20Example1(t *testing.T) {
	fs := simfs.New(4000)
	s := opened(t, fs, 2)
	for i := 1; i <= 5; i++ {
		s.Append(5, place(i))
	}
	if bad := upkeep.Snapshot(s); bad != api.OK {
		t.Fatalf("Snapshot: %d", bad)
	}
	if n, bad := s.Append(5, place(6)); n != 6 || bad != api.OK {
		t.Fatalf("Append = %d, %d", n, bad)
	}
	if n, bad := upkeep.Compact(s); n != 2 || bad != api.OK || s.Floor() != 4 {
		t.Errorf("Compact = %d, %d; Floor %d", n, bad, s.Floor())
	}
	if rs, bad := s.Read(4); len(rs) != 0 || bad != api.ErrCompacted {
		t.Errorf("Read(4) = %v, %d", rs, bad)
	}
	if rs, bad := s.Read(5); !slices.Equal(rs, []api.Record{{Seq: 5, Event: place(5)}, {Seq: 6, Event: place(6)}}) || bad != api.OK {
		t.Errorf("Read(5) = %v, %d", rs, bad)
	}
	if m := s.Manifest(); !same(m, api.Manifest{Gen: 5, Next: 5, Floor: 4, Snap: 4, SnapSeq: 5, Segs: []api.Seg{{Num: 3, First: 5}}}) {
		t.Errorf("the manifest is %v", m)
	}
	if !slices.Equal(fs.List(), []string{"book-000004", "manifest", "seg-000003"}) {
		t.Errorf("files: %v", fs.List())
	}
}

func TestP20Example2(t *testing.T) {
	s := opened(t, simfs.New(4000), 2)
	s.Append(5, place(1))
	s.Append(5, place(2))
	if bad := upkeep.Snapshot(s); bad != api.OK {
		t.Fatalf("Snapshot: %d", bad)
	}
	if n, bad := upkeep.Compact(s); n != 1 || bad != api.OK || s.Floor() != 2 {
		t.Errorf("Compact = %d, %d; Floor %d", n, bad, s.Floor())
	}
	if m := s.Manifest(); len(m.Segs) != 1 || m.Segs[0] != (api.Seg{Num: 3, First: 3}) || m.Next != 4 {
		t.Errorf("the manifest is %v", m)
	}
	if rs, bad := s.Read(3); len(rs) != 0 || bad != api.OK {
		t.Errorf("Read(3) = %v, %d", rs, bad)
	}
	steps := s.Disk().Steps()
	if n, bad := upkeep.Compact(s); n != 0 || bad != api.OK || s.Disk().Steps() != steps {
		t.Errorf("a further Compact = %d, %d", n, bad)
	}
	if bad := upkeep.Snapshot(s); bad != api.ErrEmpty || s.Disk().Steps() != steps {
		t.Errorf("a further Snapshot: %d", bad)
	}
}

func TestP20_5NoSnap(t *testing.T) {
	for what, fs := range map[string]*simfs.FS{
		"a new store":     simfs.New(60),
		"events":          stocked(0, 0, 2, 2).disk(t, 5000),
		"no further Gen":  numbered(stocked(0, 0, 2, 2), 1<<40, 1000000).disk(t, 5000),
		"no room":         stocked(0, 0, 2, 2).disk(t, 0),
		"and corrupt too": corrupt(stocked(0, 0, 2, 2)).disk(t, 5000),
	} {
		s := opened(t, fs, 3)
		refused(t, what, s, api.ErrNoSnap, func() api.Errno {
			n, bad := upkeep.Compact(s)
			if n != 0 {
				t.Errorf("%s: %d beside the error", what, n)
			}
			return bad
		})
	}
}

// Which segments may go, by where the book ends.
func TestP20_5WhichMayGo(t *testing.T) {
	for _, x := range []struct {
		floor, snap int
		counts      []int
		count       int
		segs        []api.Seg
	}{
		{0, 1, []int{2, 2, 3}, 0, nil},
		{0, 2, []int{2, 2, 3}, 1, []api.Seg{{Num: 7, First: 3, Count: 2}, {Num: 9, First: 5}}},
		{0, 3, []int{2, 2, 3}, 1, []api.Seg{{Num: 7, First: 3, Count: 2}, {Num: 9, First: 5}}},
		{0, 4, []int{2, 2, 3}, 2, []api.Seg{{Num: 9, First: 5}}},
		{0, 5, []int{2, 2, 3}, 2, []api.Seg{{Num: 9, First: 5}}},
		{0, 6, []int{2, 2, 3}, 2, []api.Seg{{Num: 9, First: 5}}},
		{0, 7, []int{2, 2, 3}, 3, []api.Seg{{Num: 12, First: 8}}},
		{0, 4, []int{2, 2, 0}, 2, []api.Seg{{Num: 9, First: 5}}}, // the active one has no event: it stays
		{0, 3, []int{2, 2, 0}, 1, []api.Seg{{Num: 7, First: 3, Count: 2}, {Num: 9, First: 5}}},
		{0, 1, []int{1}, 1, []api.Seg{{Num: 8, First: 2}}},
		{0, 1, []int{2}, 0, nil},
		{5, 5, []int{0}, 0, nil},
		{5, 5, []int{1}, 0, nil},
		{5, 6, []int{1}, 1, []api.Seg{{Num: 8, First: 7}}},
		{5, 6, []int{1, 0}, 1, []api.Seg{{Num: 7, First: 7}}},
		{5, 8, []int{1, 1, 1, 1}, 3, []api.Seg{{Num: 11, First: 9}}},
	} {
		what := fmt.Sprint(x)
		shop := stocked(x.floor, x.snap, x.counts...)
		fs := shop.disk(t, 5000)
		s := opened(t, fs, 9)
		steps, last := fs.Steps(), s.Last()
		n, bad := upkeep.Compact(s)
		if n != x.count || bad != api.OK || s.Last() != last {
			t.Errorf("%s: Compact = %d, %d, Last %d", what, n, bad, s.Last())
		}
		m := s.Manifest()
		if x.segs == nil {
			if fs.Steps() != steps || !same(m, shop.m) {
				t.Errorf("%s: something was done", what)
			}
			continue
		}
		for i := range m.Segs {
			m.Segs[i].Foot = 0
		}
		next := shop.m.Next
		if x.count == len(x.counts) {
			next++
		}
		if !same(m, api.Manifest{Gen: 9, Next: next, Floor: x.segs[0].First - 1, Snap: 4, SnapSeq: x.snap, Segs: x.segs}) {
			t.Errorf("%s: the manifest is %v", what, m)
		}
		want := []string{bookFile(4), "manifest"}
		for _, g := range x.segs {
			want = append(want, file(g.Num))
		}
		slices.Sort(want)
		if !slices.Equal(fs.List(), want) {
			t.Errorf("%s: files: %v", what, fs.List())
		}
		for id := 90; id < 96; id++ { // it goes on
			if n, bad := s.Append(5, place(id)); n != last+id-89 || bad != api.OK {
				t.Errorf("%s: Append = %d, %d", what, n, bad)
			}
		}
		if again, bad := store.Open(twin(t, fs), api.Config{Stride: 1, SegEvents: 9}); bad != api.OK || again.Last() != last+6 || !same(again.Manifest(), s.Manifest()) {
			t.Errorf("%s: it doesn't open: %d", what, bad)
		}
	}
}

// Where nothing may go, nothing bars it.
func TestP20_5NothingMayGo(t *testing.T) {
	for what, x := range map[string]shop{
		"no further Gen":      numbered(stocked(0, 1, 2, 2), 1<<40, 20),
		"no further number":   numbered(stocked(0, 1, 2, 2), 8, 1000000),
		"nothing above":       numbered(stocked(5, 5, 0), 1<<40, 1000000),
		"a corrupt segment":   corrupt(stocked(0, 1, 2, 2)),
		"an active one alone": stocked(0, 3, 4),
	} {
		fs := x.disk(t, 0)
		s := opened(t, fs, 9)
		fill(t, fs, 700)
		refused(t, what, s, api.OK, func() api.Errno {
			n, bad := upkeep.Compact(s)
			if n != 0 {
				t.Errorf("%s: %d", what, n)
			}
			return bad
		})
	}
}

func TestP20_5Nums(t *testing.T) {
	for what, x := range map[string]struct {
		shop  shop
		count int
		want  api.Errno
	}{
		"the last Gen":                   {numbered(stocked(0, 2, 2, 2), 1<<40-1, 20), 1, api.OK},
		"none behind it":                 {numbered(stocked(0, 2, 2, 2), 1<<40, 20), 0, api.ErrNums},
		"none behind it, and all may go": {numbered(stocked(0, 4, 2, 2), 1<<40, 20), 0, api.ErrNums},
		"no number, and some may go":     {numbered(stocked(0, 3, 2, 2), 8, 1000000), 1, api.OK},
		"no number, an empty active one": {numbered(stocked(0, 4, 2, 2, 0), 8, 1000000), 2, api.OK},
		"no number, and all may go":      {numbered(stocked(0, 4, 2, 2), 8, 1000000), 0, api.ErrNums},
		"the last number":                {numbered(stocked(0, 4, 2, 2), 8, 999999), 2, api.OK},
	} {
		s := opened(t, x.shop.disk(t, 5000), 9)
		call := func() api.Errno {
			n, bad := upkeep.Compact(s)
			if n != x.count {
				t.Errorf("%s: Compact = %d, %d", what, n, bad)
			}
			return bad
		}
		if x.want == api.OK {
			if bad := call(); bad != api.OK {
				t.Errorf("%s: %d", what, bad)
			}
			continue
		}
		refused(t, what, s, x.want, call)
		crowd(t, s.Disk(), 0)
		refused(t, what+", without room", s, x.want, call)
	}
}

func TestP20_5Room(t *testing.T) {
	for what, x := range map[string]struct {
		shop shop
		segs []api.Seg
		head int
	}{
		"one goes":            {stocked(0, 2, 2, 2, 2), stocked(0, 0, 2, 2, 2).m.Segs[1:], 0},
		"but the active one":  {stocked(0, 4, 2, 2, 2), stocked(0, 0, 2, 2, 2).m.Segs[2:], 0},
		"all go":              {stocked(0, 6, 2, 2, 2), []api.Seg{{Num: 12, First: 7}}, 22},
		"one, and a Gen more": {numbered(stocked(0, 2, 2, 2, 2), 127, 127), stocked(0, 0, 2, 2, 2).m.Segs[1:], 0},
		"all, above 127":      {numbered(stocked(0, 6, 2, 2, 2), 127, 127), []api.Seg{{Num: 127, First: 7}}, 22},
		"all, above 128":      {numbered(stocked(0, 6, 2, 2, 2), 128, 128), []api.Seg{{Num: 128, First: 7}}, 23},
		"all of many":         {stocked(0, 160, 100, 60), []api.Seg{{Num: 10, First: 161}}, 23},
	} {
		m := x.shop.m
		m.Gen, m.Segs, m.Floor = m.Gen+1, x.segs, x.segs[0].First-1
		if x.head > 0 {
			m.Next++
		}
		need := len(written(m)) + x.head
		for less := -1; less <= 1; less++ {
			s := opened(t, x.shop.disk(t, need-less), 9)
			if less <= 0 {
				if _, bad := upkeep.Compact(s); bad != api.OK || !same(s.Manifest(), m) {
					t.Errorf("%s, %d bytes too few: %d, %v", what, less, bad, s.Manifest())
				}
				continue
			}
			refused(t, what, s, api.ErrFull, func() api.Errno {
				n, bad := upkeep.Compact(s)
				if n != 0 {
					t.Errorf("%s: %d beside the error", what, n)
				}
				return bad
			})
		}
	}
}

func TestP20_5Files(t *testing.T) {
	for _, x := range []struct {
		snap, files int
		want        api.Errno
	}{
		{2, 698, api.OK}, {2, 699, api.OK}, {2, 700, api.ErrFull},
		{6, 697, api.OK}, {6, 698, api.OK}, {6, 699, api.ErrFull}, {6, 700, api.ErrFull},
	} {
		fs := stocked(0, x.snap, 2, 2, 2).disk(t, 5000)
		s := opened(t, fs, 9)
		fill(t, fs, x.files)
		call := func() api.Errno {
			_, bad := upkeep.Compact(s)
			return bad
		}
		if x.want != api.OK {
			refused(t, fmt.Sprint(x), s, x.want, call)
		} else if bad := call(); bad != api.OK {
			t.Errorf("%v: %d", x, bad)
		}
	}
}

func TestP20_5TheSteps(t *testing.T) {
	for what, x := range map[string]shop{
		"one goes":            stocked(0, 2, 2, 2, 3),
		"two go":              stocked(0, 4, 2, 2, 3),
		"above a floor":       stocked(3, 5, 2, 2),
		"an empty active one": stocked(2, 7, 2, 3, 0),
		"nothing":             stocked(0, 1, 2, 5),
		"no book":             stocked(0, 0, 2, 5),
	} {
		compact := func(s *store.Store) (int, api.Errno) { return upkeep.Compact(s) }
		follow(t, what, x.disk(t, 5000), 9, manyPlaced(7), compact, (*model).compact)
		both := func(s *store.Store) (int, api.Errno) {
			if bad := upkeep.Snapshot(s); bad != api.OK {
				return 0, bad
			}
			return upkeep.Compact(s)
		}
		follow(t, what+", all behind a snapshot", x.disk(t, 5000), 9, manyPlaced(7), both, func(d *model) (int, api.Errno) {
			if bad := d.snapshot(); bad != api.OK {
				return 0, bad
			}
			return d.compact()
		})
	}
}

// Corrupt segments that are all in the book go like others.
func TestP20_5WhatGoesIsNotRead(t *testing.T) {
	s := opened(t, corrupt(stocked(0, 5, 2, 2, 3)).disk(t, 5000), 9)
	if n, bad := upkeep.Compact(s); n != 2 || bad != api.OK {
		t.Errorf("Compact = %d, %d", n, bad)
	}
	if ss, bad := upkeep.States(s); !sameStates(ss, placed(7)) || bad != api.OK {
		t.Errorf("States = %v, %d", ss, bad)
	}
}

// slack is how many bytes of the store's files lie beside the book and the segments that hold an event above it.
func slack(t *testing.T, s *store.Store) int {
	t.Helper()
	m := s.Manifest()
	n := s.Disk().Used()
	for _, x := range s.Disk().Image() {
		if x.Name == bookFile(m.Snap) || x.Name == "crowd" {
			n -= len(x.Data)
		}
		for _, g := range m.Segs {
			end := g.First + g.Count - 1
			if g.Count == 0 {
				end = s.Last()
			}
			if x.Name == file(g.Num) && end > m.SnapSeq {
				n -= len(x.Data)
			}
		}
	}
	return n
}

func TestP20_7LittleMore(t *testing.T) {
	for what, x := range map[string]shop{
		"the widest manifest": wide(t, 256, 1<<40-3000, 999999),
		"nothing may go":      stocked(0, 1, 2, 2),
		"all go":              stocked(0, 300, 100, 100, 100),
		"but the active one":  stocked(0, 200, 100, 100, 100),
		"an empty active one": stocked(0, 200, 100, 100, 0),
	} {
		s := opened(t, x.disk(t, 20000), 512)
		for range 2 {
			if _, bad := upkeep.Compact(s); bad != api.OK {
				t.Fatalf("%s: %d", what, bad)
			}
			if n := slack(t, s); n > 8192 {
				t.Errorf("%s: %d bytes more", what, n)
			}
			s.Append(5, place(9))
		}
	}
}

func TestP20_8RoomEnoughForACompaction(t *testing.T) {
	for what, x := range map[string]struct {
		shop  shop
		count int
	}{
		"the widest manifest": {wide(t, 256, 1<<40-3000, 999999), 1},
		"all go":              {stocked(0, 6, 2, 2, 2), 3},
	} {
		fs := x.shop.disk(t, 1<<20)
		s := opened(t, fs, 512)
		fill(t, fs, 697)
		crowd(t, fs, 10000)
		if n, bad := upkeep.Compact(s); n != x.count || bad != api.OK {
			t.Errorf("%s: Compact = %d, %d", what, n, bad)
		}
	}
}
