package journal_test

import (
	"encoding/binary"
	"fmt"
	"math/rand"
	"reflect"
	"slices"
	"strings"
	"testing"

	"daybook/api"
	"daybook/book"
	"daybook/frame"
	"daybook/journal"
	"daybook/manifest"
	"daybook/order"
	"daybook/schema"
	"daybook/segment"
	"daybook/simfs"
	"daybook/upcast"
)

// list is the plain list of events, brought up, that a journal must answer as.
type list []api.Event

func (l list) load(id int) api.State { return order.Fold(order.Empty(id), l) }

// orders is the numbers of all orders that stand in the list.
func (l list) orders() []int {
	var ids []int
	for _, e := range l {
		ids = append(ids, e.Order)
	}
	slices.Sort(ids)
	return slices.Compact(ids)
}

// from is the records from a number on.
func (l list) from(n int) []api.Record {
	var rs []api.Record
	for i, e := range l[n-1:] {
		rs = append(rs, api.Record{Seq: n + i, Event: e})
	}
	return rs
}

// hold holds a journal that is open to the list: all that it shows, but its Loads of a few orders.
func (l list) hold(t *testing.T, what string, j *journal.Journal) {
	t.Helper()
	if j.Last() != len(l) || j.Floor() > len(l) {
		t.Fatalf("%s: Last %d, Floor %d; there are %d events", what, j.Last(), j.Floor(), len(l))
	}
	if rs, bad := j.Replay(j.Floor() + 1); !slices.Equal(rs, l.from(j.Floor()+1)) || bad != api.OK {
		t.Fatalf("%s: Replay = %v, %d, not %v", what, rs, bad, l.from(j.Floor()+1))
	}
	ids, bad := j.Orders()
	if !slices.Equal(ids, l.orders()) || bad != api.OK {
		t.Fatalf("%s: Orders = %v, %d, not %v", what, ids, bad, l.orders())
	}
	for _, id := range append(ids, 1<<40, 77) {
		if s, bad := j.Load(id); !sameState(s, l.load(id)) || bad != api.OK {
			t.Fatalf("%s: Load(%d) = %v, %d, not %v", what, id, s, bad, l.load(id))
		}
	}
}

func sameState(a, b api.State) bool {
	lines := slices.Equal(a.Lines, b.Lines)
	a.Lines, b.Lines = nil, nil
	return lines && reflect.DeepEqual(a, b)
}

func place(id int) api.Event { return api.Event{Kind: api.Place, Order: id} }

// someEvent is a right event of some version, and what it is once it is brought up.
func someEvent(r *rand.Rand) (int, api.Event, api.Event) {
	v := 1 + r.Intn(5)
	kinds := schema.Kinds(v)
	e := api.Event{Kind: kinds[r.Intn(len(kinds))], Order: 1 + r.Intn(6), Item: r.Intn(4), Qty: r.Intn(5), Price: r.Intn(4)}
	if r.Intn(3) == 0 {
		e.Kind = api.Place
	}
	if v > 3 {
		e.Who = []string{"", "ann", "bob"}[r.Intn(3)]
	}
	if v == 5 {
		e.Note = strings.Repeat("n", r.Intn(2)*r.Intn(100))
	}
	now, bad := upcast.Chain(v, e)
	if bad != api.OK {
		panic(bad)
	}
	return v, e, now
}

func packed(v int, e api.Event) []byte {
	raw, bad := schema.Pack(v, e)
	if bad != api.OK {
		panic(bad)
	}
	return raw
}

// opened is a journal over a disk.
func opened(t *testing.T, fs *simfs.FS, stride, events int) *journal.Journal {
	t.Helper()
	j, bad := journal.Open(fs, api.Config{Stride: stride, SegEvents: events})
	if j == nil || bad != api.OK {
		t.Fatalf("Open = %v, %d", j, bad)
	}
	return j
}

// mounted is a disk of files that are all safe, with so many bytes free.
func mounted(t *testing.T, free int, files []api.File) *simfs.FS {
	t.Helper()
	room := free
	for i := range files {
		files[i].Safe = len(files[i].Data)
		room += files[i].Safe
	}
	fs, bad := simfs.Mount(room, files)
	if bad != api.OK {
		t.Fatalf("Mount: %d", bad)
	}
	return fs
}

// stocked is a disk with a journal of the events above a floor, in segments of so many, the last one active, and with a book up to snap, if that is above 0; the event i is the Place of order i.
func stocked(t *testing.T, stride, floor, snap int, counts ...int) *simfs.FS {
	t.Helper()
	m := api.Manifest{Gen: 8, Floor: floor}
	var files []api.File
	num, first := 1, floor+1
	for i, count := range counts {
		b := framed(api.HeaderFrame, num, numbers(num, first))
		for seq := first; seq < first+count; seq++ {
			b = append(b, framed(api.EventFrame, seq, packed(5, place(seq)))...)
		}
		g := api.Seg{Num: num, First: first}
		if i < len(counts)-1 {
			g.Count, g.Foot = count, len(b)
			foot, bad := segment.Footer(b, stride)
			if bad != api.OK {
				panic(bad)
			}
			b = append(b, foot...)
		}
		m.Segs = append(m.Segs, g)
		files = append(files, api.File{Name: fmt.Sprintf("seg-%06d", num), Data: b})
		num, first = num+1, first+count
	}
	if snap > 0 {
		var ss []api.State
		for id := range snap {
			ss = append(ss, api.State{Order: 1 + id, Status: api.Open, Events: 1})
		}
		b, bad := book.Encode(num, snap, ss)
		if bad != api.OK {
			panic(bad)
		}
		files = append(files, api.File{Name: fmt.Sprintf("book-%06d", num), Data: b})
		m.Snap, m.SnapSeq = num, snap
	}
	m.Next = num + 1
	b, bad := manifest.Encode(m)
	if bad != api.OK {
		panic(bad)
	}
	return mounted(t, 9000, append(files, api.File{Name: "manifest", Data: b}))
}

func framed(kind, seq int, body []byte) []byte {
	b, bad := frame.Encode(api.Frame{Kind: kind, Seq: seq, Body: body})
	if bad != api.OK {
		panic(bad)
	}
	return b
}

func numbers(ns ...int) []byte {
	var b []byte
	for _, n := range ns {
		b = binary.AppendUvarint(b, uint64(n))
	}
	return b
}

// off lets the power of a disk fail.
func off(fs *simfs.FS) {
	fs.Fuse(1)
	fs.Create("x")
}

// turned is a disk like another one, with bits of a file's byte turned.
func turned(t *testing.T, fs *simfs.FS, name string, at int, bits byte) *simfs.FS {
	t.Helper()
	files := fs.Image()
	for _, x := range files {
		if x.Name == name {
			x.Data[at] ^= bits
		}
	}
	return mounted(t, 9000, files)
}

// bytesOf is the bytes of a file, without a read of the disk's.
func bytesOf(fs *simfs.FS, name string) []byte {
	for _, x := range fs.Image() {
		if x.Name == name {
			return x.Data
		}
	}
	return nil
}
