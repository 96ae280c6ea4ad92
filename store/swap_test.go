package store_test

import (
	"fmt"
	"slices"
	"testing"

	"daybook/api"
	"daybook/segment"
	"daybook/simfs"
)

// swapped is the shop of the tests of Swap: sealed segments 5 and 7, the active one 9, the events 1 to 9; Next is 12.
func swapped() shop { return stocked(0, 2, 4, 3, 2) }

// following is the manifest with which Swap goes well.
func following() api.Manifest {
	m := swapped().m
	m.Gen++
	return m
}

func TestP19_6Arguments(t *testing.T) {
	for what, change := range map[string]func(m *api.Manifest){
		"nothing":            func(m *api.Manifest) { *m = api.Manifest{} },
		"not valid":          func(m *api.Manifest) { m.Next = 9 },
		"no segments":        func(m *api.Manifest) { m.Segs = nil },
		"a gap":              func(m *api.Manifest) { m.Segs = m.Segs[1:] },
		"the same Gen":       func(m *api.Manifest) { m.Gen-- },
		"a later Gen":        func(m *api.Manifest) { m.Gen++ },
		"Gen 1":              func(m *api.Manifest) { m.Gen = 1 },
		"no active segment":  func(m *api.Manifest) { m.Segs = m.Segs[:2] },
		"another First":      func(m *api.Manifest) { m.Segs[1].Count, m.Segs[2].First = 4, 9 },
		"First at Last":      func(m *api.Manifest) { m.Segs[1].Count, m.Segs[2].First = 5, 10 },
		"a Count":            func(m *api.Manifest) { m.Segs[2].Count, m.Segs[2].Foot = 2, 72 },
		"no such file":       func(m *api.Manifest) { m.Segs[1].Count, m.Segs[2] = 5, api.Seg{Num: 10, First: 10} },
		"it begins too late": func(m *api.Manifest) { m.Segs[1].Count, m.Segs[2] = 6, api.Seg{Num: 11, First: 11} },
		"it begins too soon": func(m *api.Manifest) { m.Segs[2] = api.Seg{Num: 11, First: 8} },
		"a sealed one last":  func(m *api.Manifest) { m.Segs = []api.Seg{{Num: 3, First: 1, Count: 9, Foot: 99}, {Num: 5, First: 10}} },
	} {
		for _, free := range []int{0, 1000} { // ErrArg comes ahead of ErrFull
			fs := swapped().disk(t, free+22)
			s := opened(t, fs, 2, 9)
			fs.Create(file(11))
			head, _ := segment.Header(11, 10)
			fs.Append(file(11), head)
			m := following()
			change(&m)
			refused(t, what, s, api.ErrArg, func() api.Errno { return s.Swap(m) })
		}
	}
}

func TestP19_6TheActiveOneStays(t *testing.T) {
	fs := swapped().disk(t, 1000)
	s := opened(t, fs, 2, 9)
	m := following()
	m.Next = 40
	steps := fs.Steps()
	if bad := s.Swap(m); bad != api.OK || fs.Steps() != steps+4 || !same(s.Manifest(), m) || s.Last() != 9 {
		t.Errorf("Swap: %d, %d steps, %v, Last %d", bad, fs.Steps()-steps, s.Manifest(), s.Last())
	}
	if n, bad := s.Append(5, place(10)); n != 10 || bad != api.OK {
		t.Errorf("Append = %d, %d", n, bad)
	}
	refused(t, "the same again", s, api.ErrArg, func() api.Errno { return s.Swap(m) })
	if bad := s.Rotate(); bad != api.OK || s.Manifest().Gen != 10 || s.Manifest().Next != 41 || !slices.Equal(s.Manifest().Segs[2:], []api.Seg{{Num: 9, First: 8, Count: 3, Foot: 97}, {Num: 40, First: 11}}) {
		t.Errorf("Rotate: %d, %v", bad, s.Manifest())
	}
	if records, bad := s.Read(1); len(records) != 10 || bad != api.OK {
		t.Errorf("Read = %v, %d", records, bad)
	}
	s.Close()
	if s := opened(t, fs, 2, 9); s.Last() != 10 || s.Manifest().Gen != 10 {
		t.Errorf("opened anew: %d, %v", s.Last(), s.Manifest())
	}
}

// The segments below a floor go; the active one stays.
func TestP19_6AFloor(t *testing.T) {
	shop := stocked(0, 2, 4, 3, 2)
	fs := shop.disk(t, 1000)
	s := opened(t, fs, 2, 9)
	m := following()
	m.Floor, m.Snap, m.SnapSeq, m.Segs = 4, 2, 6, m.Segs[1:]
	if bad := s.Swap(m); bad != api.OK || s.Floor() != 4 || s.Last() != 9 {
		t.Fatalf("Swap: %d, Floor %d, Last %d", bad, s.Floor(), s.Last())
	}
	for from := 1; from <= 4; from++ {
		refused(t, fmt.Sprint("Read ", from), s, api.ErrCompacted, func() api.Errno { _, bad := s.Read(from); return bad })
	}
	for from := 5; from <= 10; from++ {
		if records, bad := s.Read(from); len(records) != 10-from || bad != api.OK || from < 10 && (records[0] != api.Record{Seq: from, Event: place(from)}) {
			t.Errorf("Read(%d) = %v, %d", from, records, bad)
		}
	}
}

// Another segment takes the place of all, the active one among them.
func TestP19_6AnotherActiveOne(t *testing.T) {
	head, _ := segment.Header(12, 10)
	for size := range len(head) + 3 {
		fs := swapped().disk(t, 1000)
		s := opened(t, fs, 2, 9)
		s.Read(1)
		m := following()
		m.Next, m.Floor, m.Snap, m.SnapSeq, m.Segs = 13, 9, 2, 9, []api.Seg{{Num: 12, First: 10}}
		fs.Create(file(12))
		fs.Append(file(12), append(slices.Clone(head), 0, 0)[:size])
		fs.Sync(file(12))
		if size != len(head) {
			refused(t, fmt.Sprint(size, " bytes"), s, api.ErrArg, func() api.Errno { return s.Swap(m) })
			continue
		}
		if bad := s.Swap(m); bad != api.OK || !same(s.Manifest(), m) || s.Last() != 9 || s.Floor() != 9 {
			t.Fatalf("Swap: %d, %v, Last %d", bad, s.Manifest(), s.Last())
		}
		if records, bad := s.Read(10); len(records) != 0 || bad != api.OK || s.Decoded() != 0 {
			t.Errorf("Read = %v, %d", records, bad)
		}
		refused(t, "Read 9", s, api.ErrCompacted, func() api.Errno { _, bad := s.Read(9); return bad })
		refused(t, "Rotate", s, api.ErrEmpty, s.Rotate)
		for n := 10; n <= 14; n++ {
			if got, bad := s.Append(5, place(n)); got != n || bad != api.OK {
				t.Errorf("Append = %d, %d", got, bad)
			}
		}
		if bad := s.Rotate(); bad != api.OK || !slices.Equal(s.Manifest().Segs, []api.Seg{{Num: 12, First: 10, Count: 5, Foot: len(head) + 125}, {Num: 13, First: 15}}) {
			t.Errorf("Rotate: %d, %v", bad, s.Manifest())
		}
		if records, bad := s.Read(13); len(records) != 2 || records[0] != (api.Record{Seq: 13, Event: place(13)}) || bad != api.OK || s.Decoded() != 3 {
			t.Errorf("Read = %v, %d, %d frames", records, bad, s.Decoded())
		}
	}
}

// An active segment without events may be left for another one of the same First.
func TestP19_6AnEmptyActiveOne(t *testing.T) {
	fs := stocked(0, 2, 3, 0).disk(t, 1000)
	s := opened(t, fs, 2, 9)
	m := s.Manifest()
	m.Gen, m.Segs[1] = m.Gen+1, api.Seg{Num: 9, First: 4}
	m.Next = 10
	refused(t, "no such file", s, api.ErrArg, func() api.Errno { return s.Swap(m) })
	fs.Create(file(9))
	head, _ := segment.Header(9, 4)
	fs.Append(file(9), head)
	fs.Sync(file(9))
	if bad := s.Swap(m); bad != api.OK {
		t.Fatalf("Swap: %d", bad)
	}
	if n, bad := s.Append(5, place(4)); n != 4 || bad != api.OK || len(bytesOf(fs, file(7))) != 22 || len(bytesOf(fs, file(9))) != 47 {
		t.Errorf("Append = %d, %d", n, bad)
	}
}

func TestP19_6Room(t *testing.T) {
	m := following()
	m.Next = 999999 // larger than the one that lies there
	size := len(written(m))
	for free := size - 20; free < size+20; free++ {
		fs := swapped().disk(t, free)
		s := opened(t, fs, 2, 9)
		if free < size {
			refused(t, fmt.Sprint(free, " bytes free"), s, api.ErrFull, func() api.Errno { return s.Swap(m) })
		} else if bad := s.Swap(m); bad != api.OK {
			t.Errorf("%d bytes free: %d", free, bad)
		}
	}
	for files := 690; files <= api.MaxFiles; files++ {
		fs := swapped().disk(t, 1000)
		for i := len(fs.List()); i < files; i++ {
			fs.Create(fmt.Sprint("alien", i))
		}
		s := opened(t, fs, 2, 9)
		if files == api.MaxFiles {
			refused(t, fmt.Sprint(files, " files"), s, api.ErrFull, func() api.Errno { return s.Swap(m) })
		} else if bad := s.Swap(m); bad != api.OK || len(fs.List()) != files {
			t.Errorf("%d files: %d", files, bad)
		}
	}
}

func TestP19_6ThePowerFails(t *testing.T) {
	for fuse := range 6 {
		fs := swapped().disk(t, 1000)
		s := opened(t, fs, 2, 9)
		other := twin(t, 1000+fs.Used(), fs)
		d, _ := modelOpen(other, api.Config{Stride: 2, SegEvents: 9})
		fs.Fuse(fuse)
		other.Fuse(fuse)
		bad, want := s.Swap(following()), d.swap(following())
		if bad != want || (bad == api.OK) != (fuse == 0 || fuse == 5) {
			t.Errorf("fuse %d: Swap: %d, not %d", fuse, bad, want)
		}
		agree(t, fmt.Sprint("fuse ", fuse), s, fs, d)
	}
}

func TestRule4SwapKeepsNothingOfItsArgument(t *testing.T) {
	fs := swapped().disk(t, 1000)
	s := opened(t, fs, 2, 2)
	m := following()
	m.Segs = append(m.Segs, api.Seg{Num: 77})
	outer := m.Segs
	m.Segs = outer[:3]
	kept := slices.Clone(outer)
	want := cloned(m)
	if bad := s.Swap(m); bad != api.OK || !slices.Equal(outer, kept) || !same(m, want) {
		t.Errorf("Swap: %d, its argument is %v", bad, outer)
	}
	clear(outer)
	if !same(s.Manifest(), want) {
		t.Errorf("the manifest is %v, not %v", s.Manifest(), want)
	}
	copy(outer, kept)
	s.Rotate()
	if !slices.Equal(outer, kept) {
		t.Errorf("a later call has changed what was handed in: %v", outer)
	}
	if records, bad := s.Read(1); len(records) != 9 || bad != api.OK {
		t.Errorf("Read = %v, %d", records, bad)
	}
}

// The manifest of a new store may be swapped too.
func TestP19_6OfANewStore(t *testing.T) {
	s := opened(t, simfs.New(1000), 2, 2)
	m := s.Manifest()
	m.Gen, m.Next = 2, 9
	if bad := s.Swap(m); bad != api.OK || s.Manifest().Next != 9 || s.Last() != 0 {
		t.Errorf("Swap: %d, %v", bad, s.Manifest())
	}
}
