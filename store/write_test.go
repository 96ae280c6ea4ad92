package store_test

import (
	"bytes"
	"fmt"
	"slices"
	"strings"
	"testing"

	"daybook/api"
	"daybook/manifest"
	"daybook/schema"
	"daybook/segment"
	"daybook/simfs"
	"daybook/store"
)

func TestP19_3Example(t *testing.T) {
	fs := simfs.New(1000)
	s := opened(t, fs, 2, 2)
	if s.Last() != 0 || s.Floor() != 0 || fs.Used() != 51 {
		t.Errorf("a new store has Last %d, Floor %d, %d bytes", s.Last(), s.Floor(), fs.Used())
	}
	for i, used := range []int{76, 101} {
		steps := fs.Steps()
		if n, bad := s.Append(5, place(7+i)); n != i+1 || bad != api.OK || s.Last() != n || fs.Used() != used || fs.Steps() != steps+1 {
			t.Errorf("Append = %d, %d, Last %d, %d bytes, %d steps", n, bad, s.Last(), fs.Used(), fs.Steps()-steps)
		}
	}
	want := slices.Concat(framed(api.HeaderFrame, 1, []byte{1, 1}), framed(api.EventFrame, 1, []byte{5, 2, 1, 4, 7}), framed(api.EventFrame, 2, []byte{5, 2, 1, 4, 8}))
	if x := fs.Image()[1]; x.Name != "seg-000001" || !bytes.Equal(x.Data, want) || x.Safe != 22 {
		t.Errorf("%s holds %x, %d bytes safe", x.Name, x.Data, x.Safe)
	}
	steps := fs.Steps()
	if n, bad := s.Append(5, place(9)); n != 3 || bad != api.OK || fs.Steps() != steps+10 {
		t.Errorf("Append = %d, %d, %d steps", n, bad, fs.Steps()-steps)
	}
	m := api.Manifest{Gen: 2, Next: 3, Segs: []api.Seg{{Num: 1, First: 1, Count: 2, Foot: 72}, {Num: 2, First: 3}}}
	if !same(s.Manifest(), m) || s.Last() != 3 || !bytes.Equal(bytesOf(fs, "manifest"), written(m)) {
		t.Errorf("the manifest is %v, Last %d", s.Manifest(), s.Last())
	}
	found, _, bad := segment.Scan(bytesOf(fs, "seg-000001"))
	if !found.Sealed || found.Stride != 2 || !slices.Equal(found.Marks, []api.Mark{{Seq: 1, At: 22}}) || bad != api.OK {
		t.Errorf("the sealed segment is %v, %d", found, bad)
	}
	if x := fs.Image()[2]; len(x.Data) != 47 || x.Safe != 22 {
		t.Errorf("%s has %d bytes, %d safe", x.Name, len(x.Data), x.Safe)
	}
}

// refusals is what Append and Put refuse by layer 6.
func refusals() map[string]struct {
	v    int
	e    api.Event
	want api.Errno
} {
	long := strings.Repeat("a", 121)
	return map[string]struct {
		v    int
		e    api.Event
		want api.Errno
	}{
		"version 0":  {0, place(1), api.ErrVersion},
		"version 6":  {6, place(1), api.ErrVersion},
		"no kind":    {5, api.Event{Order: 1}, api.ErrKind},
		"a late one": {1, api.Event{Kind: api.Drop, Order: 1}, api.ErrKind},
		"too large":  {5, api.Event{Kind: api.Place, Order: 1, Note: long}, api.ErrBig},
		"no order":   {5, api.Event{Kind: api.Place}, api.ErrField},
		"a tax":      {2, api.Event{Kind: api.Place, Order: 1, Tax: 1}, api.ErrField},
	}
}

// stores is stores in which Append has something else to say: one with room, one without, one to be rotated, and one whose numbers are used up.
func stores(t *testing.T) map[string]*store.Store {
	roomy, narrow := stocked(0, 2, 1).disk(t, 100), stocked(0, 2, 1).disk(t, 24)
	done := stocked(api.MaxSeq-3, 2, 3).disk(t, 0)
	return map[string]*store.Store{"roomy": opened(t, roomy, 2, 2), "narrow": opened(t, narrow, 2, 2), "to be rotated": opened(t, narrow, 1, 1), "used up": opened(t, done, 1, 1)}
}

func TestP19_3Refused(t *testing.T) {
	raws := map[string]struct {
		raw  []byte
		want api.Errno
	}{
		"nothing":           {nil, api.ErrShort},
		"a version alone":   {[]byte{5}, api.ErrKind},
		"version 6":         {[]byte{6, 2, 1, 4, 7}, api.ErrVersion},
		"longer than it is": {[]byte{0x85, 0, 2, 1, 4, 7}, api.ErrLong},
		"an unknown tag":    {[]byte{1, 2, 1, 4, 7, 12, 1}, api.ErrTag},
		"torn":              {[]byte{5, 2, 1, 4}, api.ErrShort},
		"too large":         {append(packed(7), make([]byte, 1025)...), api.ErrBig},
	}
	for what, s := range stores(t) {
		for name, x := range refusals() {
			refused(t, what+": "+name, s, x.want, func() api.Errno {
				n, bad := s.Append(x.v, x.e)
				if n != 0 {
					t.Errorf("%s: %s: number %d", what, name, n)
				}
				return bad
			})
		}
		for name, x := range raws {
			refused(t, what+": "+name, s, x.want, func() api.Errno {
				n, bad := s.Put(x.raw)
				if n != 0 {
					t.Errorf("%s: %s: number %d", what, name, n)
				}
				return bad
			})
		}
	}
}

func TestP19_3TheNumbersAreUsedUp(t *testing.T) {
	for _, count := range []int{1, 9} {
		fs := stocked(api.MaxSeq-3, 2, 1).disk(t, 10000)
		s := opened(t, fs, 2, count)
		for n := api.MaxSeq - 1; n <= api.MaxSeq; n++ {
			if got, bad := s.Append(5, place(1)); got != n || bad != api.OK {
				t.Errorf("Append = %d, %d", got, bad)
			}
		}
		for _, full := range []bool{false, true} { // ahead of ErrFull
			if full {
				fs.Create("alien")
				fs.Append("alien", make([]byte, fs.Free()))
			}
			refused(t, "used up", s, api.ErrSeq, func() api.Errno { _, bad := s.Append(1, place(1)); return bad })
			refused(t, "used up", s, api.ErrSeq, func() api.Errno { _, bad := s.Put(packed(1)); return bad })
		}
		if records, bad := s.Read(api.MaxSeq); len(records) != 1 || records[0] != (api.Record{Seq: api.MaxSeq, Event: place(1)}) || bad != api.OK {
			t.Errorf("Read = %v, %d", records, bad)
		}
		if records, bad := s.Read(api.MaxSeq + 1); len(records) != 0 || bad != api.OK {
			t.Errorf("Read = %v, %d", records, bad)
		}
		fs.Remove("alien")
		if bad := s.Rotate(); bad != api.OK || s.Last() != api.MaxSeq {
			t.Errorf("Rotate: %d, Last %d", bad, s.Last())
		}
		refused(t, "rotated", s, api.ErrSeq, func() api.Errno { _, bad := s.Put(packed(1)); return bad })
		s.Close()
		if s := opened(t, fs, 2, count); s.Last() != api.MaxSeq {
			t.Errorf("opened anew: Last %d", s.Last())
		}
	}
}

func TestP19_3Room(t *testing.T) {
	raw := packed(7)
	for free := 15; free < 35; free++ {
		fs := stocked(0, 2, 1).disk(t, free)
		s := opened(t, fs, 2, 2)
		if free < 25 {
			refused(t, fmt.Sprint(free, " bytes free"), s, api.ErrFull, func() api.Errno { _, bad := s.Put(raw); return bad })
		} else if n, bad := s.Put(raw); n != 2 || bad != api.OK || fs.Free() != free-25 {
			t.Errorf("%d bytes free: Put = %d, %d", free, n, bad)
		}
	}
	// Files are counted for a rotation alone.
	fs := stocked(0, 2, 1).disk(t, 1000)
	for i := len(fs.List()); i < api.MaxFiles; i++ {
		fs.Create(fmt.Sprint("alien", i))
	}
	s := opened(t, fs, 2, 2)
	if n, bad := s.Put(raw); n != 2 || bad != api.OK {
		t.Errorf("as many files as there may be: Put = %d, %d", n, bad)
	}
	refused(t, "too many files", s, api.ErrFull, func() api.Errno { _, bad := s.Put(raw); return bad })
}

func TestP19_3And5RoomForARotation(t *testing.T) {
	shop := stocked(0, 2, 4, 3)
	foot, _ := segment.Footer(shop.files[file(7)], 2)
	head, _ := segment.Header(10, 8)
	next := api.Manifest{Gen: 9, Next: 11, Segs: []api.Seg{shop.m.Segs[0], {Num: 7, First: 5, Count: 3, Foot: 97}, {Num: 10, First: 8}}}
	rotation := len(foot) + len(head) + manifest.Size(next)
	for more := -30; more <= 30; more++ {
		fs := shop.disk(t, rotation+more)
		s := opened(t, fs, 2, 3)
		if more < 0 {
			refused(t, fmt.Sprint("Rotate with ", more), s, api.ErrFull, s.Rotate)
		} else if bad := s.Rotate(); bad != api.OK || !same(s.Manifest(), next) {
			t.Errorf("Rotate with %d: %d, %v", more, bad, s.Manifest())
		}
		fs = shop.disk(t, rotation+more)
		s = opened(t, fs, 2, 3)
		if more < 25 { // the frame's bytes
			refused(t, fmt.Sprint("Put with ", more), s, api.ErrFull, func() api.Errno { _, bad := s.Put(packed(7)); return bad })
		} else if n, bad := s.Put(packed(7)); n != 8 || bad != api.OK || !same(s.Manifest(), next) {
			t.Errorf("Put with %d: %d, %d, %v", more, n, bad, s.Manifest())
		}
	}
	for files := 690; files <= api.MaxFiles; files++ {
		for _, put := range []bool{false, true} {
			fs := shop.disk(t, 1000)
			for i := len(fs.List()); i < files; i++ {
				fs.Create(fmt.Sprint("alien", i))
			}
			s := opened(t, fs, 2, 3)
			rotate := s.Rotate
			if put {
				rotate = func() api.Errno { _, bad := s.Put(packed(7)); return bad }
			}
			if files > 698 {
				refused(t, fmt.Sprint(files, " files"), s, api.ErrFull, rotate)
			} else if bad := rotate(); bad != api.OK || len(fs.List()) != files+1 {
				t.Errorf("%d files: %d", files, bad)
			}
		}
	}
}

// A segment may have more events than are laid into one by now.
func TestP19_3MoreThanSegEvents(t *testing.T) {
	for _, x := range []struct{ had, most int }{{3, 1}, {3, 2}, {3, 3}, {3, 4}, {512, 512}, {511, 512}, {512, 1}} {
		fs := stocked(0, 2, x.had).disk(t, 10000)
		s := opened(t, fs, 64, x.most)
		n, bad := s.Put(packed(7))
		segs := 1
		if x.had >= x.most {
			segs = 2
		}
		if n != x.had+1 || bad != api.OK || len(s.Manifest().Segs) != segs || s.Manifest().Segs[0].Count != (segs-1)*x.had {
			t.Errorf("%v: Put = %d, %d, %v", x, n, bad, s.Manifest())
		}
		if records, bad := s.Read(1); len(records) != n || bad != api.OK {
			t.Errorf("%v: Read = %d records, %d", x, len(records), bad)
		}
	}
}

func TestP19_3EventsOfAllVersions(t *testing.T) {
	s := opened(t, simfs.New(10000), 2, 3)
	for v := 1; v <= 5; v++ {
		e := api.Event{Kind: api.Pay, Order: 7, Price: 2}
		if n, bad := s.Append(v, e); n != 2*v-1 || bad != api.OK {
			t.Errorf("Append(%d, ..) = %d, %d", v, n, bad)
		}
		raw, _ := schema.Pack(v, e)
		if n, bad := s.Put(raw); n != 2*v || bad != api.OK {
			t.Errorf("Put(%x) = %d, %d", raw, n, bad)
		}
	}
	records, bad := s.Read(1)
	if len(records) != 10 || bad != api.OK {
		t.Fatalf("Read = %v, %d", records, bad)
	}
	for i, x := range records {
		want := api.Event{Kind: api.Pay, Order: 7, Price: 2}
		if i/2 == 0 {
			want.Price = 200
		}
		if i/2 < 3 {
			want.Who = "old"
		}
		if x != (api.Record{Seq: i + 1, Event: want}) {
			t.Errorf("event %d is %v", i+1, x)
		}
	}
}

func TestRule4RawIsNeitherKeptNorChanged(t *testing.T) {
	s := opened(t, simfs.New(1000), 2, 2)
	for i := 1; i <= 5; i++ {
		outer := append(packed(i), 0xa5, 0xa5)
		if n, bad := s.Put(outer[:5]); n != i || bad != api.OK {
			t.Errorf("Put = %d, %d", n, bad)
		}
		if !bytes.Equal(outer, append(packed(i), 0xa5, 0xa5)) {
			t.Errorf("Put has changed its argument: %x", outer)
		}
		clear(outer)
	}
	records, bad := s.Read(1)
	for i, x := range records {
		if x.Event != place(i+1) {
			t.Errorf("event %d is %v", i+1, x)
		}
	}
	if len(records) != 5 || bad != api.OK {
		t.Errorf("Read = %v, %d", records, bad)
	}
}

// numbered is a shop of one event in its active segment, with this Gen and Next and so many segments.
func numbered(gen, next, segs int) shop {
	counts := slices.Repeat([]int{1}, segs)
	s := stocked(0, 1, counts...)
	s.m.Gen, s.m.Next = gen, next
	return s
}

func TestP19_5Refused(t *testing.T) {
	const seq, num = api.MaxSeq, api.MaxNum
	for _, x := range []struct {
		what string
		shop shop
		want api.Errno
	}{
		{"all is well", numbered(8, 900, 255), api.OK},
		{"the last numbers", numbered(seq-1, num, 255), api.OK},
		{"256 segments", numbered(8, 900, 256), api.ErrSegs},
		{"256 segments ahead of the numbers", numbered(seq, num+1, 256), api.ErrSegs},
		{"no number", numbered(8, num+1, 1), api.ErrNums},
		{"no generation", numbered(seq, 900, 1), api.ErrNums},
		{"neither", numbered(seq, num+1, 255), api.ErrNums},
	} {
		for _, free := range []int{24, 10000} { // ErrFull comes behind the others
			want := x.want
			if want == api.OK && free == 24 {
				want = api.ErrFull
			}
			s := opened(t, x.shop.disk(t, free), 1, 1)
			if want != api.OK {
				refused(t, x.what, s, want, s.Rotate)
				refused(t, x.what+", by Put", s, want, func() api.Errno { _, bad := s.Put(packed(7)); return bad })
				continue
			}
			last, m := s.Last(), s.Manifest()
			if bad := s.Rotate(); bad != api.OK || s.Last() != last || s.Manifest().Gen != m.Gen+1 || s.Manifest().Next != m.Next+1 {
				t.Errorf("%s: Rotate: %d, %v", x.what, bad, s.Manifest())
			}
		}
	}
	// Nothing to be sealed: ahead of all others.
	empty := stocked(0, 1, append(slices.Repeat([]int{1}, 255), 0)...)
	empty.m.Gen, empty.m.Next = seq, num+1
	s := opened(t, empty.disk(t, 0), 1, 1)
	refused(t, "no event", s, api.ErrEmpty, s.Rotate)
	s = opened(t, simfs.New(10000), 1, 1)
	refused(t, "a new store", s, api.ErrEmpty, s.Rotate)
}

// Each step of a rotation, and what lies there when the power fails in it.
func TestP19_5TheSteps(t *testing.T) {
	shop := stocked(0, 2, 1, 3)
	for fuse := range 12 {
		fs := shop.disk(t, 1000)
		s := opened(t, fs, 2, 3)
		other := twin(t, 1000+fs.Used(), fs)
		d, _ := modelOpen(other, api.Config{Stride: 2, SegEvents: 3})
		before, otherBefore := fs.Steps(), other.Steps()
		if before != otherBefore {
			t.Fatalf("%d steps, %d steps", before, otherBefore)
		}
		fs.Fuse(fuse)
		other.Fuse(fuse)
		bad, want := s.Rotate(), d.rotate(0)
		if bad != want || (bad == api.OK) != (fuse == 0 || fuse > 9) {
			t.Errorf("fuse %d: Rotate: %d, not %d", fuse, bad, want)
		}
		agree(t, fmt.Sprint("fuse ", fuse), s, fs, d)
	}
}

func TestP19_5TheStrideOfNow(t *testing.T) {
	fs := simfs.New(10000)
	for i, stride := range []int{1, 3, 64, 2} {
		s := opened(t, fs, stride, 512)
		for range 7 {
			s.Append(5, place(1))
		}
		if bad := s.Rotate(); bad != api.OK {
			t.Fatalf("Rotate: %d", bad)
		}
		found, events, bad := segment.Scan(bytesOf(fs, file(i+1)))
		g := s.Manifest().Segs[i]
		if !found.Sealed || found.Stride != stride || len(found.Marks) != (7+stride-1)/stride || len(events) != 7 || bad != api.OK {
			t.Errorf("stride %d: %v, %d", stride, found, bad)
		}
		if g != (api.Seg{Num: i + 1, First: 7*i + 1, Count: 7, Foot: 22 + 7*25}) {
			t.Errorf("stride %d: %v", stride, g)
		}
		for _, x := range fs.Image() {
			if x.Safe != len(x.Data) {
				t.Errorf("behind Rotate %s has %d bytes, %d safe", x.Name, len(x.Data), x.Safe)
			}
		}
		s.Close()
	}
}
