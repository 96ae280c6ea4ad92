package store_test

import (
	"bytes"
	"encoding/binary"
	"fmt"
	"math/rand"
	"reflect"
	"slices"
	"strings"
	"testing"

	"daybook/api"
	"daybook/book"
	"daybook/frame"
	"daybook/index"
	"daybook/manifest"
	"daybook/recovery"
	"daybook/schema"
	"daybook/segment"
	"daybook/simfs"
	"daybook/store"
	"daybook/upcast"
)

// The model: a store by the letter of the chapter, over a disk of its own. Its steps are those that the chapter lists, one after the other.
type model struct {
	fs     *simfs.FS
	cfg    api.Config
	m      api.Manifest
	last   int
	closed bool
}

func modelOpen(fs *simfs.FS, cfg api.Config) (*model, api.Errno) {
	if cfg.Stride < 1 || cfg.Stride > 64 || cfg.SegEvents < 1 || cfg.SegEvents > 512 {
		return nil, api.ErrArg
	}
	p, bad := recovery.Run(fs)
	if bad != api.OK {
		return nil, bad
	}
	return &model{fs: fs, cfg: cfg, m: p.Manifest, last: p.Last}, api.OK
}

func (d *model) alive() api.Errno {
	if d.closed {
		return api.ErrClosed
	}
	if d.fs.Down() {
		d.closed = true
		return api.ErrDown
	}
	return api.OK
}

func (d *model) active() api.Seg { return d.m.Segs[len(d.m.Segs)-1] }

// file is that of a segment's number.
func file(num int) string { return fmt.Sprintf("seg-%06d", num) }

// told is what a step has answered.
func (d *model) told(bad api.Errno) api.Errno {
	d.closed = d.closed || bad == api.ErrDown
	return bad
}

func (d *model) put(raw []byte) (int, api.Errno) {
	if bad := d.alive(); bad != api.OK {
		return 0, bad
	}
	if _, _, bad := schema.Unpack(raw); bad != api.OK {
		return 0, bad
	}
	if d.last == api.MaxSeq {
		return 0, api.ErrSeq
	}
	b := framed(api.EventFrame, d.last+1, raw)
	if d.last-d.active().First+1 >= d.cfg.SegEvents {
		if bad := d.rotate(len(b)); bad != api.OK {
			return 0, bad
		}
	} else if len(b) > d.fs.Free() {
		return 0, api.ErrFull
	}
	if bad := d.told(d.fs.Append(file(d.active().Num), b)); bad != api.OK {
		return 0, bad
	}
	d.last++
	return d.last, api.OK
}

func (d *model) rotate(more int) api.Errno {
	if bad := d.alive(); bad != api.OK {
		return bad
	}
	g := d.active()
	switch {
	case d.last < g.First:
		return api.ErrEmpty
	case len(d.m.Segs) == 256:
		return api.ErrSegs
	case d.m.Next > 999999 || d.m.Gen == 1<<40:
		return api.ErrNums
	}
	old, next := file(g.Num), file(d.m.Next)
	b := bytesOf(d.fs, old)
	foot, bad := segment.Footer(b, d.cfg.Stride)
	if bad != api.OK {
		panic(bad)
	}
	head := framed(api.HeaderFrame, d.m.Next, numbers(d.m.Next, d.last+1))
	m := cloned(d.m)
	m.Segs[len(m.Segs)-1] = api.Seg{Num: g.Num, First: g.First, Count: d.last - g.First + 1, Foot: len(b)}
	m.Segs = append(m.Segs, api.Seg{Num: m.Next, First: d.last + 1})
	m.Gen, m.Next = m.Gen+1, m.Next+1
	if len(foot)+len(head)+len(written(m))+more > d.fs.Free() || len(d.fs.List()) > 698 {
		return api.ErrFull
	}
	if d.fs.Append(old, foot) != api.OK || d.fs.Sync(old) != api.OK || d.fs.Create(next) != api.OK || d.fs.Append(next, head) != api.OK || d.fs.Sync(next) != api.OK || d.save(m) != api.OK {
		return d.told(api.ErrDown)
	}
	d.m = m
	return api.OK
}

// save does the four steps of a manifest's.
func (d *model) save(m api.Manifest) api.Errno {
	if d.fs.Create("manifest.tmp") != api.OK || d.fs.Append("manifest.tmp", written(m)) != api.OK || d.fs.Sync("manifest.tmp") != api.OK || d.fs.Rename("manifest.tmp", "manifest") != api.OK {
		return api.ErrDown
	}
	return api.OK
}

func (d *model) swap(m api.Manifest) api.Errno {
	if bad := d.alive(); bad != api.OK {
		return bad
	}
	if !manifest.Valid(m) || m.Gen != d.m.Gen+1 {
		return api.ErrArg
	}
	if g := m.Segs[len(m.Segs)-1]; g != d.active() {
		size, bad := d.fs.Size(file(g.Num))
		head, _ := segment.Header(g.Num, g.First)
		if g.Num == d.active().Num || g.First != d.last+1 || bad != api.OK || size != len(head) {
			return api.ErrArg
		}
	}
	if len(written(m)) > d.fs.Free() || len(d.fs.List()) >= 700 {
		return api.ErrFull
	}
	if bad := d.told(d.save(m)); bad != api.OK {
		return bad
	}
	d.m = cloned(m)
	return api.OK
}

func (d *model) sync() api.Errno {
	if bad := d.alive(); bad != api.OK {
		return bad
	}
	return d.told(d.fs.Sync(file(d.active().Num)))
}

func (d *model) close() api.Errno {
	bad := d.sync()
	d.closed = true
	return bad
}

// read goes through all that lies there.
func (d *model) read(from int) ([]api.Record, api.Errno) {
	if bad := d.alive(); bad != api.OK {
		return nil, bad
	}
	if from < 1 || from > d.last+1 {
		return nil, api.ErrArg
	}
	if from <= d.m.Floor {
		return nil, api.ErrCompacted
	}
	var records []api.Record
	for _, g := range d.m.Segs {
		_, events, _ := segment.Scan(bytesOf(d.fs, file(g.Num)))
		for _, p := range events {
			e, bad := upcast.Read(p.Frame.Body)
			if bad != api.OK {
				return nil, api.ErrCorrupt
			}
			if p.Frame.Seq >= from {
				records = append(records, api.Record{Seq: p.Frame.Seq, Event: e})
			}
		}
	}
	return records, api.OK
}

// agree holds a store and its disk to the model's.
func agree(t *testing.T, what string, s *store.Store, fs *simfs.FS, d *model) {
	t.Helper()
	last, m, floor, disk := d.last, d.m, d.m.Floor, fs
	if d.closed {
		last, m, floor, disk = 0, api.Manifest{}, 0, nil
	}
	if s.Last() != last || s.Floor() != floor || !same(s.Manifest(), m) || s.Closed() != d.closed || s.Disk() != disk {
		t.Fatalf("%s: the store has Last %d, Floor %d, %v, closed: %v; not %d, %d, %v, %v", what, s.Last(), s.Floor(), s.Manifest(), s.Closed(), last, floor, m, d.closed)
	}
	if fs.Steps() != d.fs.Steps() || !reflect.DeepEqual(fs.Image(), d.fs.Image()) {
		t.Fatalf("%s: on the disk lie, behind %d steps, %v\nnot, behind %d, %v", what, fs.Steps(), fs.Image(), d.fs.Steps(), d.fs.Image())
	}
}

func same(a, b api.Manifest) bool {
	return a.Gen == b.Gen && a.Next == b.Next && a.Floor == b.Floor && a.Snap == b.Snap && a.SnapSeq == b.SnapSeq && slices.Equal(a.Segs, b.Segs)
}

func cloned(m api.Manifest) api.Manifest {
	m.Segs = slices.Clone(m.Segs)
	return m
}

// bytesOf is the bytes of a file, without a read of the disk's.
func bytesOf(fs *simfs.FS, name string) []byte {
	for _, x := range fs.Image() {
		if x.Name == name {
			return x.Data
		}
	}
	return nil
}

// twin is a disk just like another one whose power is on, without its fuse.
func twin(t *testing.T, room int, fs *simfs.FS) *simfs.FS {
	t.Helper()
	other, bad := simfs.Mount(room, fs.Image())
	if bad != api.OK {
		t.Fatalf("Mount: %d", bad)
	}
	return other
}

func framed(kind, seq int, body []byte) []byte {
	b, bad := frame.Encode(api.Frame{Kind: kind, Seq: seq, Body: body})
	if bad != api.OK {
		panic(bad)
	}
	return b
}

func numbers(ns ...int) []byte {
	var b []byte
	for _, n := range ns {
		b = binary.AppendUvarint(b, uint64(n))
	}
	return b
}

func written(m api.Manifest) []byte {
	b, bad := manifest.Encode(m)
	if bad != api.OK {
		panic(bad)
	}
	return b
}

func place(id int) api.Event { return api.Event{Kind: api.Place, Order: id} }

// packed is a packed event of version 5 that has 25 bytes as a frame: Place of a small order.
func packed(id int) []byte { return []byte{5, 2, 1, 4, byte(id)} }

// someEvent is a right event of some version.
func someEvent(r *rand.Rand) (int, api.Event) {
	v := 1 + r.Intn(5)
	kinds := schema.Kinds(v)
	e := api.Event{Kind: kinds[r.Intn(len(kinds))], Order: 1 + r.Intn(9), Item: r.Intn(4), Qty: r.Intn(5), Price: r.Intn(300)}
	if v < 3 {
		e.Qty -= 2
	}
	if v > 1 {
		e.Cur = r.Intn(4)
	}
	if v > 3 {
		e.Who = []string{"", "ann", "bob"}[r.Intn(3)]
	}
	if v == 5 {
		e.Note = strings.Repeat("n", r.Intn(2)*r.Intn(121))
	}
	return v, e
}

// shop is a store as it lies on a disk.
type shop struct {
	m     api.Manifest
	files map[string][]byte // all but the manifest
}

// stocked is a shop above a floor, with segments of so many events, the last one active; their numbers are 5, 7, 9 and so on. The i-th event's order is i, from 1 on.
func stocked(floor, stride int, counts ...int) shop {
	s := shop{m: api.Manifest{Gen: 8, Floor: floor}, files: map[string][]byte{}}
	if floor > 0 {
		b, bad := book.Encode(3, floor, nil)
		if bad != api.OK {
			panic(bad)
		}
		s.files["book-000003"] = b
		s.m.Snap, s.m.SnapSeq = 3, floor
	}
	num, first := 5, floor+1
	for i, count := range counts {
		b := framed(api.HeaderFrame, num, numbers(num, first))
		for seq := first; seq < first+count; seq++ {
			b = append(b, framed(api.EventFrame, seq, packed(1+(seq-floor-1)%100))...)
		}
		g := api.Seg{Num: num, First: first}
		if i < len(counts)-1 {
			g.Count, g.Foot = count, len(b)
			foot, bad := segment.Footer(b, stride)
			if bad != api.OK {
				panic(bad)
			}
			b = append(b, foot...)
		}
		s.m.Segs = append(s.m.Segs, g)
		s.files[file(num)] = b
		num, first = num+2, first+count
	}
	s.m.Next = num + 1
	return s
}

// resealed puts a footer with these marks in the place of the i-th segment's, right or wrong.
func (s shop) resealed(i, stride int, marks ...api.Mark) {
	g := s.m.Segs[i]
	b, bad := index.Encode(marks)
	if bad != api.OK {
		panic(bad)
	}
	foot := framed(api.FooterFrame, g.Num, append(numbers(g.First, g.Count, stride), b...))
	s.files[file(g.Num)] = append(bytes.Clone(s.files[file(g.Num)][:g.Foot]), foot...)
}

// disk is one on which the shop lies, with so many bytes free.
func (s shop) disk(t *testing.T, free int) *simfs.FS {
	t.Helper()
	files := []api.File{{Name: "manifest", Data: written(s.m)}}
	for name, b := range s.files {
		files = append(files, api.File{Name: name, Data: b})
	}
	room := free
	for i := range files {
		files[i].Safe = len(files[i].Data)
		room += files[i].Safe
	}
	fs, bad := simfs.Mount(room, files)
	if bad != api.OK {
		t.Fatalf("Mount: %d", bad)
	}
	return fs
}

// opened is a store over a disk.
func opened(t *testing.T, fs *simfs.FS, stride, events int) *store.Store {
	t.Helper()
	s, bad := store.Open(fs, api.Config{Stride: stride, SegEvents: events})
	if s == nil || bad != api.OK {
		t.Fatalf("Open = %v, %d", s, bad)
	}
	return s
}

// refused holds a call to an error that leaves the disk and the store as they were.
func refused(t *testing.T, what string, s *store.Store, want api.Errno, call func() api.Errno) {
	t.Helper()
	fs := s.Disk()
	image, steps, last, floor, m, decoded := fs.Image(), fs.Steps(), s.Last(), s.Floor(), s.Manifest(), s.Decoded()
	if bad := call(); bad != want {
		t.Errorf("%s: %d, not %d", what, bad, want)
	}
	if fs.Steps() != steps || !reflect.DeepEqual(fs.Image(), image) {
		t.Errorf("%s: the disk was changed", what)
	}
	if s.Closed() || s.Last() != last || s.Floor() != floor || !same(s.Manifest(), m) || s.Decoded() != decoded {
		t.Errorf("%s: the store was changed", what)
	}
}

// off lets the power of a disk fail.
func off(fs *simfs.FS) {
	fs.Fuse(1)
	fs.Create("x")
}
