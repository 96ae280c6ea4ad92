package upkeep_test

import (
	"encoding/binary"
	"fmt"
	"reflect"
	"slices"
	"testing"

	"daybook/api"
	"daybook/book"
	"daybook/frame"
	"daybook/manifest"
	"daybook/order"
	"daybook/segment"
	"daybook/simfs"
	"daybook/store"
)

// The model: what the chapter says, step by step, over a disk and a store of its own, and a plain list of all events that ever were. The calls of layer 19 are the store's.
type model struct {
	fs     *simfs.FS
	s      *store.Store
	events []api.Event
}

// states is the states of all orders behind the first events, each folded out of them by itself.
func (d *model) states(count int) []api.State {
	ids := map[int]bool{}
	for _, e := range d.events[:count] {
		ids[e.Order] = true
	}
	var ss []api.State
	for id := range ids {
		ss = append(ss, order.Fold(order.Empty(id), d.events[:count]))
	}
	slices.SortFunc(ss, func(a, b api.State) int { return a.Order - b.Order })
	return ss
}

func (d *model) snapshot() api.Errno {
	if bad := d.s.Alive(); bad != api.OK {
		return bad
	}
	m, last := d.s.Manifest(), d.s.Last()
	if last == m.SnapSeq {
		return api.ErrEmpty
	}
	if m.Next > 999999 || m.Gen == 1<<40 {
		return api.ErrNums
	}
	b, bad := book.Encode(m.Next, last, d.states(last))
	if bad != api.OK {
		panic(bad)
	}
	old := m
	m.Gen, m.Next, m.Snap, m.SnapSeq = old.Gen+1, old.Next+1, old.Next, last
	if len(b)+len(written(m)) > d.fs.Free() || len(d.fs.List()) > 698 {
		return api.ErrFull
	}
	name := bookFile(m.Snap)
	if bad := d.fs.Sync(file(old.Segs[len(old.Segs)-1].Num)); bad != api.OK {
		return d.told(bad)
	}
	if d.fs.Create(name) != api.OK || d.fs.Append(name, b) != api.OK || d.fs.Sync(name) != api.OK {
		return d.told(api.ErrDown)
	}
	if bad := d.s.Swap(m); bad != api.OK {
		return bad
	}
	if old.Snap > 0 {
		return d.told(d.fs.Remove(bookFile(old.Snap)))
	}
	return api.OK
}

// told is what a step has answered that goes past the store.
func (d *model) told(bad api.Errno) api.Errno {
	if bad == api.ErrDown {
		d.s.Alive()
	}
	return bad
}

// mayGo looks into the files.
func (d *model) mayGo(m api.Manifest) []api.Seg {
	var went []api.Seg
	for _, g := range m.Segs {
		seg, _, bad := segment.Scan(bytesOf(d.fs, file(g.Num)))
		if bad != api.OK {
			panic(bad)
		}
		if seg.Count > 0 && seg.First+seg.Count-1 <= m.SnapSeq {
			went = append(went, g)
		}
	}
	return went
}

func (d *model) compact() (int, api.Errno) {
	if bad := d.s.Alive(); bad != api.OK {
		return 0, bad
	}
	m, last := d.s.Manifest(), d.s.Last()
	if m.Snap == 0 {
		return 0, api.ErrNoSnap
	}
	went := d.mayGo(m)
	if len(went) == 0 {
		return 0, api.OK
	}
	all := len(went) == len(m.Segs)
	if m.Gen == 1<<40 || all && m.Next > 999999 {
		return 0, api.ErrNums
	}
	m.Gen++
	m.Segs = slices.DeleteFunc(m.Segs, func(g api.Seg) bool { return slices.Contains(went, g) })
	var head []byte
	files, name := 699, file(m.Next)
	if all {
		head, files = framed(api.HeaderFrame, m.Next, numbers(m.Next, last+1)), 698
		m.Segs = append(m.Segs, api.Seg{Num: m.Next, First: last + 1})
		m.Next++
	}
	m.Floor = m.Segs[0].First - 1
	if len(head)+len(written(m)) > d.fs.Free() || len(d.fs.List()) > files {
		return 0, api.ErrFull
	}
	if all && (d.fs.Create(name) != api.OK || d.fs.Append(name, head) != api.OK || d.fs.Sync(name) != api.OK) {
		return 0, d.told(api.ErrDown)
	}
	if bad := d.s.Swap(m); bad != api.OK {
		return 0, bad
	}
	for _, g := range went {
		if bad := d.fs.Remove(file(g.Num)); bad != api.OK {
			return 0, d.told(bad)
		}
	}
	return len(went), api.OK
}

// file is that of a segment's number.
func file(num int) string { return fmt.Sprintf("seg-%06d", num) }

func bookFile(num int) string { return fmt.Sprintf("book-%06d", num) }

func framed(kind, seq int, body []byte) []byte {
	b, bad := frame.Encode(api.Frame{Kind: kind, Seq: seq, Body: body})
	if bad != api.OK {
		panic(bad)
	}
	return b
}

func numbers(ns ...int) []byte {
	var b []byte
	for _, n := range ns {
		b = binary.AppendUvarint(b, uint64(n))
	}
	return b
}

func written(m api.Manifest) []byte {
	b, bad := manifest.Encode(m)
	if bad != api.OK {
		panic(bad)
	}
	return b
}

func bookBytes(num, seq int, ss []api.State) []byte {
	b, bad := book.Encode(num, seq, ss)
	if bad != api.OK {
		panic(bad)
	}
	return b
}

// bytesOf is the bytes of a file, without a read of the disk's.
func bytesOf(fs *simfs.FS, name string) []byte {
	for _, x := range fs.Image() {
		if x.Name == name {
			return x.Data
		}
	}
	return nil
}

func same(a, b api.Manifest) bool {
	return a.Gen == b.Gen && a.Next == b.Next && a.Floor == b.Floor && a.Snap == b.Snap && a.SnapSeq == b.SnapSeq && slices.Equal(a.Segs, b.Segs)
}

func sameStates(a, b []api.State) bool {
	return slices.EqualFunc(a, b, func(x, y api.State) bool {
		lines := slices.Equal(x.Lines, y.Lines)
		x.Lines, y.Lines = nil, nil
		return lines && reflect.DeepEqual(x, y)
	})
}

func place(id int) api.Event { return api.Event{Kind: api.Place, Order: id} }

// shop is a store as it lies on a disk.
type shop struct {
	m     api.Manifest
	files map[string][]byte // all but the manifest
}

// stocked is a shop of the events above a floor, in segments of so many, the last one active; their numbers are 5, 7, 9 and so on. With a snap above 0 there is a book of number 4 up to that event. The event i is the Place of order i.
func stocked(floor, snap int, counts ...int) shop {
	s := shop{m: api.Manifest{Gen: 8, Floor: floor}, files: map[string][]byte{}}
	num, first := 5, floor+1
	for i, count := range counts {
		b := framed(api.HeaderFrame, num, numbers(num, first))
		for seq := first; seq < first+count; seq++ {
			b = append(b, framed(api.EventFrame, seq, append([]byte{5, 2, 1, 4}, numbers(seq)...))...)
		}
		g := api.Seg{Num: num, First: first}
		if i < len(counts)-1 {
			g.Count, g.Foot = count, len(b)
			foot, bad := segment.Footer(b, 2)
			if bad != api.OK {
				panic(bad)
			}
			b = append(b, foot...)
		}
		s.m.Segs = append(s.m.Segs, g)
		s.files[file(num)] = b
		num, first = num+2, first+count
	}
	s.m.Next = num + 1
	if snap > 0 {
		s.m.Snap, s.m.SnapSeq = 4, snap
		s.files[bookFile(4)] = bookBytes(4, snap, placed(snap))
	}
	return s
}

// placed is the states of the orders 1 to n, each just placed; of a great n those of the last few alone.
func placed(n int) []api.State {
	var ss []api.State
	for id := max(1, n-1000); id <= n && id <= api.MaxOrder; id++ {
		ss = append(ss, api.State{Order: id, Status: api.Open, Events: 1})
	}
	return ss
}

// disk is one on which the shop lies, with so many bytes free.
func (s shop) disk(t *testing.T, free int) *simfs.FS {
	t.Helper()
	files := []api.File{{Name: "manifest", Data: written(s.m)}}
	for name, b := range s.files {
		files = append(files, api.File{Name: name, Data: b})
	}
	room := free
	for i := range files {
		files[i].Safe = len(files[i].Data)
		room += files[i].Safe
	}
	fs, bad := simfs.Mount(room, files)
	if bad != api.OK {
		t.Fatalf("Mount: %d", bad)
	}
	return fs
}

// twin is a disk just like another one whose power is on, without its fuse.
func twin(t *testing.T, fs *simfs.FS) *simfs.FS {
	t.Helper()
	other, bad := simfs.Mount(fs.Used()+fs.Free(), fs.Image())
	if bad != api.OK {
		t.Fatalf("Mount: %d", bad)
	}
	return other
}

// opened is a store over a disk.
func opened(t *testing.T, fs *simfs.FS, events int) *store.Store {
	t.Helper()
	s, bad := store.Open(fs, api.Config{Stride: 2, SegEvents: events})
	if s == nil || bad != api.OK {
		t.Fatalf("Open = %v, %d", s, bad)
	}
	return s
}

// refused holds a call to an error that leaves the disk and the store as they were.
func refused(t *testing.T, what string, s *store.Store, want api.Errno, call func() api.Errno) {
	t.Helper()
	fs := s.Disk()
	image, steps, last, floor, m := fs.Image(), fs.Steps(), s.Last(), s.Floor(), s.Manifest()
	if bad := call(); bad != want {
		t.Errorf("%s: %d, not %d", what, bad, want)
	}
	if fs.Steps() != steps || !reflect.DeepEqual(fs.Image(), image) {
		t.Errorf("%s: the disk was changed", what)
	}
	if s.Closed() || s.Last() != last || s.Floor() != floor || !same(s.Manifest(), m) {
		t.Errorf("%s: the store was changed", what)
	}
}

// off lets the power of a disk fail.
func off(fs *simfs.FS) {
	fs.Fuse(1)
	fs.Create("x")
}

// fill lays alien files until there are so many.
func fill(t *testing.T, fs *simfs.FS, count int) {
	t.Helper()
	for i := 0; len(fs.List()) < count; i++ {
		if bad := fs.Create(fmt.Sprint("alien", i)); bad != api.OK {
			t.Fatalf("Create: %d", bad)
		}
	}
}

// crowd takes room until so many bytes are free.
func crowd(t *testing.T, fs *simfs.FS, free int) {
	t.Helper()
	fs.Create("crowd")
	if bad := fs.Append("crowd", make([]byte, fs.Free()-free)); bad != api.OK {
		t.Fatalf("Append: %d", bad)
	}
}
