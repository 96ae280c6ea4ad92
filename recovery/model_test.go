package recovery_test

import (
	"bytes"
	"encoding/binary"
	"fmt"
	"math/rand"
	"slices"
	"strings"
	"testing"

	"daybook/api"
	"daybook/book"
	"daybook/frame"
	"daybook/index"
	"daybook/manifest"
	"daybook/scan"
	"daybook/segment"
	"daybook/simfs"
)

// The model: a plan by the letter of the chapter, over the bytes of all files.

func modelPlan(room int, files map[string][]byte) (api.Plan, api.Errno) {
	b, there := files["manifest"]
	if !there {
		return modelFresh(room, files)
	}
	m, bad := manifest.Decode(b)
	if bad != api.OK {
		return api.Plan{}, api.ErrCorrupt
	}
	if m.Snap != 0 {
		num, seq, _, bad := book.Decode(files[fmt.Sprintf("book-%06d", m.Snap)])
		if bad != api.OK || num != m.Snap || seq != m.SnapSeq {
			return api.Plan{}, api.ErrCorrupt
		}
	}
	named := []string{fmt.Sprintf("book-%06d", m.Snap)}
	for i, g := range m.Segs {
		name := fmt.Sprintf("seg-%06d", g.Num)
		named = append(named, name)
		b, there := files[name]
		num, first, head, bad := segment.HeaderOf(b)
		if !there || bad != api.OK || num != g.Num || first != g.First {
			return api.Plan{}, api.ErrCorrupt
		}
		if i == len(m.Segs)-1 {
			events, end := scan.Run(b, head, g.First, 512)
			last := g.First - 1 + len(events)
			if last < m.SnapSeq {
				return api.Plan{}, api.ErrCorrupt
			}
			return api.Plan{Manifest: m, Remove: others(files, named), Cut: end, Last: last}, api.OK
		}
		if len(b) <= g.Foot {
			return api.Plan{}, api.ErrCorrupt
		}
		marks, _, bad := segment.Closing(b[g.Foot:], g)
		if bad != api.OK || marks[0].At != head {
			return api.Plan{}, api.ErrCorrupt
		}
	}
	panic("a manifest without segments")
}

func modelFresh(room int, files map[string][]byte) (api.Plan, api.Errno) {
	remove := others(files, nil)
	left, used := 0, 0
	for name, b := range files {
		if !slices.Contains(remove, name) {
			left++
			used += len(b)
		}
	}
	if room-used < 51 || left > 698 {
		return api.Plan{}, api.ErrFull
	}
	return api.Plan{Fresh: true, Manifest: fresh(), Remove: remove, Cut: 22}, api.OK
}

// others is the store's names, but the manifest's, that are none of those named; sorted.
func others(files map[string][]byte, named []string) []string {
	var names []string
	for name := range files {
		if (name == "manifest.tmp" || numbered(name)) && !slices.Contains(named, name) {
			names = append(names, name)
		}
	}
	slices.Sort(names)
	return names
}

// numbered tells whether a name is a segment's or a book's.
func numbered(name string) bool {
	digits, ok := strings.CutPrefix(name, "seg-")
	if !ok {
		digits, ok = strings.CutPrefix(name, "book-")
	}
	return ok && len(digits) == 6 && strings.Trim(digits, "0123456789") == "" && digits != "000000"
}

// fresh is the first manifest.
func fresh() api.Manifest {
	return api.Manifest{Gen: 1, Next: 2, Floor: 0, Snap: 0, SnapSeq: 0, Segs: []api.Seg{{Num: 1, First: 1, Count: 0, Foot: 0}}}
}

func samePlan(a, b api.Plan) bool {
	return a.Fresh == b.Fresh && sameManifest(a.Manifest, b.Manifest) && slices.Equal(a.Remove, b.Remove) && a.Cut == b.Cut && a.Last == b.Last
}

func sameManifest(a, b api.Manifest) bool {
	return a.Gen == b.Gen && a.Next == b.Next && a.Floor == b.Floor && a.Snap == b.Snap && a.SnapSeq == b.SnapSeq && slices.Equal(a.Segs, b.Segs)
}

func clonePlan(p api.Plan) api.Plan {
	p.Manifest.Segs, p.Remove = slices.Clone(p.Manifest.Segs), slices.Clone(p.Remove)
	return p
}

func framed(kind, seq int, body []byte) []byte {
	b, bad := frame.Encode(api.Frame{Kind: kind, Seq: seq, Body: body})
	if bad != api.OK {
		panic(bad)
	}
	return b
}

func numbers(ns ...int) []byte {
	var b []byte
	for _, n := range ns {
		b = binary.AppendUvarint(b, uint64(n))
	}
	return b
}

func header(num, first int) []byte { return framed(api.HeaderFrame, num, numbers(num, first)) }

// events is so many event frames, of 21 bytes each.
func events(first, count int) []byte {
	var b []byte
	for i := range count {
		b = append(b, framed(api.EventFrame, first+i, []byte{9})...)
	}
	return b
}

// footer is a footer with these numbers, right or wrong.
func footer(num, first, count, stride int, marks ...api.Mark) []byte {
	b, bad := index.Encode(marks)
	if bad != api.OK {
		panic(bad)
	}
	return framed(api.FooterFrame, num, append(numbers(first, count, stride), b...))
}

// every is the marks of so many events of 21 bytes behind a header.
func every(head, first, count, stride int) []api.Mark {
	var ms []api.Mark
	for i := 0; i < count; i += stride {
		ms = append(ms, api.Mark{Seq: first + i, At: head + 21*i})
	}
	return ms
}

func states(orders ...int) []api.State {
	var ss []api.State
	for _, o := range orders {
		ss = append(ss, api.State{Order: o, Events: 1, Refused: 1})
	}
	return ss
}

func bookOf(num, seq int, ss []api.State) []byte {
	b, bad := book.Encode(num, seq, ss)
	if bad != api.OK {
		panic(bad)
	}
	return b
}

func written(m api.Manifest) []byte {
	b, bad := manifest.Encode(m)
	if bad != api.OK {
		panic(bad)
	}
	return b
}

// shop is a store as it lies on a disk: its manifest, and all files but that one.
type shop struct {
	m     api.Manifest
	files map[string][]byte
}

// stocked is a shop above a floor, with the book of number 3 if snap is not 0, and with segments of so many events, the last one active; their numbers are 5, 7, 9 and so on.
func stocked(floor, snap, stride int, counts ...int) shop {
	s := shop{m: api.Manifest{Gen: 8, Floor: floor, SnapSeq: snap}, files: map[string][]byte{}}
	if snap > 0 {
		s.m.Snap = 3
		s.files["book-000003"] = bookOf(3, snap, states(4, 7))
	}
	num, first := 5, floor+1
	for i, count := range counts {
		b := append(header(num, first), events(first, count)...)
		g := api.Seg{Num: num, First: first}
		if i < len(counts)-1 {
			g.Count, g.Foot = count, len(b)
			b = append(b, footer(num, first, count, stride, every(len(header(num, first)), first, count, stride)...)...)
		}
		s.m.Segs = append(s.m.Segs, g)
		s.files[fmt.Sprintf("seg-%06d", num)] = b
		num, first = num+2, first+count
	}
	s.m.Next = num + 1
	return s
}

// grown is a shop of all parts: a floor, a book, three sealed segments, and an active one with three events.
func grown() shop { return stocked(20, 26, 2, 4, 1, 3, 3) }

// name is that of the i-th segment's file.
func (s shop) name(i int) string { return fmt.Sprintf("seg-%06d", s.m.Segs[i].Num) }

// all is the files with the manifest among them.
func (s shop) all() map[string][]byte {
	files := map[string][]byte{"manifest": written(s.m)}
	for name, b := range s.files {
		files[name] = b
	}
	return files
}

func (s shop) disk(t *testing.T) *simfs.FS { return mounted(t, 1<<20, s.all()) }

// mounted is a disk on which files lie, all of their bytes safe.
func mounted(t *testing.T, room int, files map[string][]byte) *simfs.FS {
	t.Helper()
	var list []api.File
	for name, b := range files {
		list = append(list, api.File{Name: name, Data: b, Safe: len(b)})
	}
	fs, bad := simfs.Mount(room, list)
	if bad != api.OK {
		t.Fatalf("Mount: %d", bad)
	}
	return fs
}

// turned is bytes with one bit of theirs turned.
func turned(b []byte, bit int) []byte {
	b = bytes.Clone(b)
	b[bit/8] ^= 1 << (bit % 8)
	return b
}

// someShop is a shop of any form.
func someShop(r *rand.Rand) shop {
	var counts []int
	total := 0
	for range r.Intn(5) {
		counts = append(counts, 1+r.Intn(6))
		total += counts[len(counts)-1]
	}
	active := r.Intn(6)
	counts = append(counts, active)
	total += active
	if r.Intn(3) == 0 {
		return stocked(0, 0, 1+r.Intn(4), counts...)
	}
	floor := 1 + r.Intn(300)
	return stocked(floor, floor+r.Intn(total+1), 1+r.Intn(4), counts...)
}
