package audit_test

import (
	"bytes"
	"encoding/binary"
	"fmt"
	"math/rand"
	"regexp"
	"slices"
	"sort"
	"strconv"
	"testing"

	"daybook/api"
	"daybook/audit"
	"daybook/book"
	"daybook/frame"
	"daybook/index"
	"daybook/manifest"
	"daybook/schema"
	"daybook/segment"
	"daybook/upcast"
)

// The model: the findings by the letter of the chapter, paragraph by paragraph, over a plain list of files.

var numbered = regexp.MustCompile(`^(seg|book)-([0-9]{6})$`)

// parsed is what a numbered file is, and its number; 0 of any other.
func parsed(name string) (string, int) {
	parts := numbered.FindStringSubmatch(name)
	if parts == nil {
		return "", 0
	}
	n, _ := strconv.Atoi(parts[2])
	if n == 0 {
		return "", 0
	}
	return parts[1], n
}

// firsts is the files without those whose name another one had first.
func firsts(files []api.File) []api.File {
	var list []api.File
	for _, f := range files {
		if !slices.ContainsFunc(list, func(g api.File) bool { return g.Name == f.Name }) {
			list = append(list, f)
		}
	}
	return list
}

func modelLook(files []api.File) []api.Finding {
	files = firsts(files)
	var found []api.Finding
	find := func(name string, at int, code api.Errno) {
		found = append(found, api.Finding{Name: name, At: at, Code: code})
	}
	at := func(name string) int {
		return slices.IndexFunc(files, func(f api.File) bool { return f.Name == name })
	}
	var m *api.Manifest
	parts := false
	for _, f := range files {
		kind, _ := parsed(f.Name)
		parts = parts || kind != ""
	}
	if i := at("manifest"); i >= 0 {
		if got, bad := manifest.Decode(files[i].Data); bad == api.OK {
			m = &got
		} else {
			find("manifest", 0, api.ErrManifest)
		}
	} else if parts {
		find("manifest", 0, api.ErrNoFile)
	}
	counts := map[string]int{} // of what the manifest names; the book's is -1
	if m != nil {
		for _, g := range m.Segs {
			counts[fmt.Sprintf("seg-%06d", g.Num)] = g.Count
		}
		if m.Snap != 0 {
			counts[fmt.Sprintf("book-%06d", m.Snap)] = -1
		}
		for name := range counts {
			if at(name) < 0 {
				find(name, 0, api.ErrNoFile)
			}
		}
	}
	for _, f := range files {
		kind, num := parsed(f.Name)
		_, named := counts[f.Name]
		if m != nil && !named && (kind != "" || f.Name == "manifest.tmp") {
			find(f.Name, 0, api.ErrExists)
		}
		if kind == "book" {
			if n, _, _, bad := book.Decode(f.Data); bad != api.OK || n != num {
				find(f.Name, 0, api.ErrBook)
			}
		}
		if kind == "seg" {
			count := -1
			if named {
				count = counts[f.Name]
			}
			modelSegment(f, num, count, find)
		}
	}
	sort.Slice(found, func(i, j int) bool {
		a, b := found[i], found[j]
		if a.Name != b.Name {
			return a.Name < b.Name
		}
		if a.At != b.At {
			return a.At < b.At
		}
		return a.Code < b.Code
	})
	return found
}

// modelSegment is the fourth paragraph; a count below 0: the manifest has no such segment.
func modelSegment(f api.File, num, count int, find func(name string, at int, code api.Errno)) {
	s, events, bad := segment.Scan(f.Data)
	if bad != api.OK || s.Num != num {
		find(f.Name, 0, api.ErrHeader)
		return
	}
	for _, p := range events {
		if _, bad := upcast.Read(p.Frame.Body); bad != api.OK {
			find(f.Name, p.At, bad)
		}
	}
	if s.Good < len(f.Data) {
		got, _, bad := frame.Decode(f.Data[s.Good:])
		switch {
		case s.Sealed:
			bad = api.ErrSealed
		case bad != api.OK:
		case got.Kind == api.FooterFrame:
			bad = api.ErrIndex
		default:
			bad = api.ErrMissing
		}
		find(f.Name, s.Good, bad)
	}
	if s.Sealed && count == 0 || !s.Sealed && count > 0 {
		find(f.Name, s.Good, api.ErrFull)
	}
}

func framed(kind, seq int, body []byte) []byte {
	b, bad := frame.Encode(api.Frame{Kind: kind, Seq: seq, Body: body})
	if bad != api.OK {
		panic(bad)
	}
	return b
}

func numbers(ns ...int) []byte {
	var b []byte
	for _, n := range ns {
		b = binary.AppendUvarint(b, uint64(n))
	}
	return b
}

func header(num, first int) []byte { return framed(api.HeaderFrame, num, numbers(num, first)) }

// body is a packed event of five bytes, so that its frame has 25.
func body(id int) []byte {
	b, bad := schema.Pack(5, api.Event{Kind: api.Place, Order: 1 + id%100})
	if bad != api.OK {
		panic(bad)
	}
	return b
}

// events is so many event frames, of 25 bytes each.
func events(first, count int) []byte {
	var b []byte
	for i := range count {
		b = append(b, framed(api.EventFrame, first+i, body(first+i))...)
	}
	return b
}

// sealed is the bytes of a segment with the footer that seals them.
func sealed(b []byte, stride int) []byte {
	foot, bad := segment.Footer(b, stride)
	if bad != api.OK {
		panic(bad)
	}
	return slices.Concat(b, foot)
}

// footer is a footer with these numbers, right or wrong.
func footer(num, first, count, stride int, marks ...api.Mark) []byte {
	b, bad := index.Encode(marks)
	if bad != api.OK {
		panic(bad)
	}
	return framed(api.FooterFrame, num, append(numbers(first, count, stride), b...))
}

func bookOf(num, seq int, orders ...int) []byte {
	var ss []api.State
	for _, o := range orders {
		ss = append(ss, api.State{Order: o, Events: 1, Refused: 1})
	}
	b, bad := book.Encode(num, seq, ss)
	if bad != api.OK {
		panic(bad)
	}
	return b
}

func written(m api.Manifest) []byte {
	b, bad := manifest.Encode(m)
	if bad != api.OK {
		panic(bad)
	}
	return b
}

// shop is a store as it lies on a disk: its manifest, and all files but that one.
type shop struct {
	m     api.Manifest
	files map[string][]byte
}

// stocked is a shop above a floor, with the book of number 3 if snap is not 0, and with segments of so many events, the last one active; their numbers are 5, 7, 9 and so on.
func stocked(floor, snap, stride int, counts ...int) shop {
	s := shop{m: api.Manifest{Gen: 8, Floor: floor, SnapSeq: snap}, files: map[string][]byte{}}
	if snap > 0 {
		s.m.Snap = 3
		s.files["book-000003"] = bookOf(3, snap, 4, 7)
	}
	num, first := 5, floor+1
	for i, count := range counts {
		b := append(header(num, first), events(first, count)...)
		g := api.Seg{Num: num, First: first}
		if i < len(counts)-1 {
			g.Count, g.Foot = count, len(b)
			b = sealed(b, stride)
		}
		s.m.Segs = append(s.m.Segs, g)
		s.files[fmt.Sprintf("seg-%06d", num)] = b
		num, first = num+2, first+count
	}
	s.m.Next = num + 1
	return s
}

// grown is a shop of all parts: a floor, a book, two sealed segments (5 and 7), and an active one (9) with three events.
func grown() shop { return stocked(20, 26, 2, 4, 3, 3) }

// all is the files in any order, the manifest among them.
func (s shop) all() []api.File {
	files := []api.File{{Name: "manifest", Data: written(s.m)}}
	for name, b := range s.files {
		files = append(files, api.File{Name: name, Data: b})
	}
	return files
}

// with is a shop with another file, or with other bytes in one.
func (s shop) with(name string, parts ...[]byte) shop {
	s.files[name] = slices.Concat(parts...)
	return s
}

// without is a shop without files.
func (s shop) without(names ...string) shop {
	for _, name := range names {
		delete(s.files, name)
	}
	return s
}

// turned is bytes with one bit of theirs turned.
func turned(b []byte, bit int) []byte {
	b = bytes.Clone(b)
	b[bit/8] ^= 1 << (bit % 8)
	return b
}

// looks holds Look to these findings, and to the model, and Sound to Look.
func looks(t *testing.T, what string, files []api.File, want ...api.Finding) {
	t.Helper()
	got := audit.Look(files)
	if !slices.Equal(got, want) || !slices.Equal(got, modelLook(files)) {
		t.Errorf("%s: found %v, not %v (the model: %v)", what, got, want, modelLook(files))
	}
	there := slices.ContainsFunc(files, func(f api.File) bool { return f.Name == "manifest" })
	if audit.Sound(files) != (there && len(want) == 0) {
		t.Errorf("%s: Sound is %v", what, audit.Sound(files))
	}
}

// f is a finding.
func f(name string, at int, code api.Errno) api.Finding {
	return api.Finding{Name: name, At: at, Code: code}
}

// someShop is a shop of any form.
func someShop(r *rand.Rand) shop {
	var counts []int
	total := 0
	for range r.Intn(4) {
		counts = append(counts, 1+r.Intn(4))
		total += counts[len(counts)-1]
	}
	active := r.Intn(4)
	counts = append(counts, active)
	total += active
	if r.Intn(3) == 0 {
		return stocked(0, 0, 1+r.Intn(4), counts...)
	}
	floor := 1 + r.Intn(300)
	return stocked(floor, floor+r.Intn(total+1), 1+r.Intn(4), counts...)
}
