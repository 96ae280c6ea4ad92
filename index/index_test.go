package index_test

import (
	"bytes"
	"math"
	"math/rand"
	"slices"
	"testing"

	"daybook/api"
	"daybook/index"
	"daybook/varint"
)

// list is marks of these numbers: Seq, At, Seq, At, ..
func list(ns ...int) []api.Mark {
	var ms []api.Mark
	for i := 0; i < len(ns); i += 2 {
		ms = append(ms, api.Mark{Seq: ns[i], At: ns[i+1]})
	}
	return ms
}

// long is an index of so many marks, each a step of both behind the one ahead.
func long(count, step int) []api.Mark {
	var ms []api.Mark
	for i := range count {
		ms = append(ms, api.Mark{Seq: 1 + i*step, At: i * step})
	}
	return ms
}

// anyIndex is an index of any numbers.
func anyIndex(r *rand.Rand) []api.Mark {
	var ms []api.Mark
	m := api.Mark{Seq: 0, At: -1}
	bits := 1 + r.Intn(30)
	for range r.Intn(12) {
		m.Seq += 1 + r.Intn(1<<bits)
		m.At += 1 + r.Intn(1<<bits)
		ms = append(ms, m)
	}
	return ms
}

// indexes is indexes with those at the edges among them.
func indexes() [][]api.Mark {
	r := rand.New(rand.NewSource(13))
	all := [][]api.Mark{
		nil,
		{},
		list(1, 0),
		list(5, 30, 7, 90),
		list(api.MaxSeq, api.MaxSeq),
		list(1, 0, api.MaxSeq, api.MaxSeq),
		list(api.MaxSeq-1, api.MaxSeq-1, api.MaxSeq, api.MaxSeq),
		list(1, api.MaxSeq),
		list(api.MaxSeq, 0),
		long(api.MaxSegEvents, 1),
		long(api.MaxSegEvents, 1<<31),
		long(api.MaxSegEvents-1, 300),
	}
	for range 300 {
		all = append(all, anyIndex(r))
	}
	return all
}

// broken is lists of marks that are no index.
func broken() [][]api.Mark {
	return [][]api.Mark{
		list(0, 0),
		list(0, 1),
		list(-1, 0),
		list(1, -1),
		list(api.MaxSeq+1, 0),
		list(1, api.MaxSeq+1),
		list(math.MinInt, 0),
		list(1, math.MinInt),
		list(math.MaxInt, 0),
		list(1, math.MaxInt),
		list(5, 30, 5, 90),
		list(5, 30, 7, 30),
		list(5, 30, 4, 90),
		list(5, 30, 7, 29),
		list(7, 90, 5, 30),
		list(1, 0, 2, 1, 2, 2),
		list(1, 0, 2, 1, 3, 1),
		list(1, 0, 2, 1, api.MaxSeq+1, 2),
		list(1, 0, 2, 1, 3, api.MaxSeq+1),
		list(1, 0, 0, 1),
		list(1, 0, 2, -1),
		long(api.MaxSegEvents+1, 1),
		append(long(api.MaxSegEvents-1, 1), api.Mark{Seq: 1, At: 9000}),
		append(long(api.MaxSegEvents-1, 1), api.Mark{Seq: 9000, At: 1}),
	}
}

func TestP13_1Last(t *testing.T) {
	for n := range 70 {
		xs := make([]int, n)
		for i := range xs {
			xs[i] = 10 * i
		}
		for k := range n + 1 {
			if got := index.Last(xs, func(x int) bool { return x < 10*k }); got != k-1 {
				t.Errorf("%d of %d: %d", k, n, got)
			}
		}
	}
	if got := index.Last([]string{"a", "b", "c"}, func(s string) bool { return s < "c" }); got != 1 {
		t.Errorf("texts: %d", got)
	}
	if got := index.Last([]api.Mark(nil), func(api.Mark) bool { return true }); got != -1 {
		t.Errorf("nothing: %d", got)
	}
	if got := index.Last(make([]struct{}, 1<<30), func(struct{}) bool { return true }); got != 1<<30-1 {
		t.Errorf("a long list: %d", got)
	}
}

func TestP13_1LastOfAnotherListEnds(t *testing.T) {
	r := rand.New(rand.NewSource(131))
	for n := range 200 {
		index.Last(make([]int, n), func(int) bool { return r.Intn(2) == 0 })
	}
}

func TestRule1LastOfNoFunction(t *testing.T) {
	for n := range 4 {
		if got := index.Last(make([]int, n), nil); got != -1 {
			t.Errorf("nil of %d: %d", n, got)
		}
	}
	if got := index.Last([]int{1, 2, 3}, func(x int) bool { return []bool{}[x] }); got != -1 {
		t.Errorf("one that panics: %d", got)
	}
}

func TestP13_2Valid(t *testing.T) {
	for _, ms := range indexes() {
		if !index.Valid(ms) {
			t.Errorf("an index: %#v", ms)
		}
	}
	for _, ms := range broken() {
		if index.Valid(ms) {
			t.Errorf("no index: %#v", ms)
		}
	}
}

func TestP13_3Build(t *testing.T) {
	r := rand.New(rand.NewSource(133))
	for n := range 80 {
		ps := make([]api.Placed, n)
		for i := range ps {
			ps[i] = api.Placed{At: int(r.Uint64()), Size: 20, Frame: api.Frame{Kind: 1, Seq: int(r.Uint64())}}
		}
		for stride := 1; stride < n+3; stride++ {
			var want []api.Mark
			for i, p := range ps {
				if i%stride == 0 {
					want = append(want, api.Mark{Seq: p.Frame.Seq, At: p.At})
				}
			}
			if got := index.Build(ps, stride); !slices.Equal(got, want) {
				t.Fatalf("Build of %d by %d: %#v, not %#v", n, stride, got, want)
			}
		}
	}
}

func TestP13_3BuildEdges(t *testing.T) {
	ps := make([]api.Placed, 3000)
	for i := range ps {
		ps[i] = api.Placed{At: 40 * i, Frame: api.Frame{Seq: 7 + i}}
	}
	for _, stride := range []int{0, -1, math.MinInt} {
		if got := index.Build(ps, stride); len(got) != 0 {
			t.Errorf("by %d: %#v", stride, got)
		}
	}
	for _, stride := range []int{3000, 3001, math.MaxInt - 1, math.MaxInt} {
		if got := index.Build(ps, stride); !slices.Equal(got, list(7, 0)) {
			t.Errorf("by %d: %#v", stride, got)
		}
		if got := index.Build(nil, stride); len(got) != 0 {
			t.Errorf("nothing by %d: %#v", stride, got)
		}
	}
	if got := index.Build(ps, 2999); !slices.Equal(got, list(7, 0, 3006, 119960)) {
		t.Errorf("by 2999: %#v", got)
	}
	if got := index.Build(ps, 1); len(got) != 3000 || got[2999] != (api.Mark{Seq: 3006, At: 119960}) {
		t.Errorf("by 1: %d marks", len(got))
	}
}

func TestP13_4TheExample(t *testing.T) {
	ms := list(5, 30, 7, 90)
	for _, x := range []struct {
		seq  int
		want api.Mark
		ok   bool
	}{
		{6, api.Mark{Seq: 5, At: 30}, true},
		{5, api.Mark{Seq: 5, At: 30}, true},
		{7, api.Mark{Seq: 7, At: 90}, true},
		{100, api.Mark{Seq: 7, At: 90}, true},
		{math.MaxInt, api.Mark{Seq: 7, At: 90}, true},
		{4, api.Mark{}, false},
		{0, api.Mark{}, false},
		{math.MinInt, api.Mark{}, false},
	} {
		if m, ok := index.Seek(ms, x.seq); m != x.want || ok != x.ok {
			t.Errorf("Seek(%d) = %#v, %v", x.seq, m, ok)
		}
	}
}

func TestP13_4Seek(t *testing.T) {
	for _, ms := range indexes() {
		asked := []int{math.MinInt, -1, 0, 1, api.MaxSeq, math.MaxInt}
		for _, m := range ms {
			asked = append(asked, m.Seq-1, m.Seq, m.Seq+1)
		}
		for _, seq := range asked {
			var want api.Mark
			found := false
			for _, m := range ms {
				if m.Seq <= seq {
					want, found = m, true
				}
			}
			if m, ok := index.Seek(ms, seq); m != want || ok != found {
				t.Fatalf("Seek(%#v, %d) = %#v, %v", ms, seq, m, ok)
			}
		}
	}
}

func TestRule1SeekInNoIndex(t *testing.T) {
	for _, ms := range broken() {
		for seq := -2; seq < 100; seq++ {
			if m, ok := index.Seek(ms, seq); !ok && m != (api.Mark{}) {
				t.Errorf("Seek(%#v, %d) = %#v, %v", ms, seq, m, ok)
			}
		}
	}
}

func TestP13_5Encode(t *testing.T) {
	if b, bad := index.Encode(list(5, 30, 7, 90)); bad != api.OK || !bytes.Equal(b, []byte{4, 5, 0x1e, 2, 0x3c}) {
		t.Errorf("the example: %x, %d", b, bad)
	}
	if b, bad := index.Encode(nil); bad != api.OK || !bytes.Equal(b, []byte{0}) {
		t.Errorf("the empty one: %x, %d", b, bad)
	}
	for _, ms := range indexes() {
		var us []uint64
		for i, m := range ms {
			if i > 0 {
				m.Seq, m.At = m.Seq-ms[i-1].Seq, m.At-ms[i-1].At
			}
			us = append(us, uint64(m.Seq), uint64(m.At))
		}
		if b, bad := index.Encode(ms); bad != api.OK || !bytes.Equal(b, varint.EncodeAll(us)) {
			t.Errorf("Encode(%#v) = %x, %d", ms, b, bad)
		}
	}
	for _, ms := range broken() {
		if b, bad := index.Encode(ms); bad != api.ErrIndex || len(b) != 0 {
			t.Errorf("Encode(%#v) = %x, %d", ms, b, bad)
		}
	}
}

// pairs is the bytes of a list of numbers.
func pairs(us ...uint64) []byte {
	return varint.EncodeAll(us)
}

func TestP13_6Refused(t *testing.T) {
	full := make([]uint64, 1024)
	for i := range full {
		full[i] = 1
	}
	for _, x := range []struct {
		b   []byte
		bad api.Errno
	}{
		{nil, api.ErrShort},
		{[]byte{}, api.ErrShort},
		{[]byte{4, 5}, api.ErrShort},
		{[]byte{4, 5, 0x1e, 2}, api.ErrShort},
		{[]byte{2, 5, 0x9e}, api.ErrShort},
		{[]byte{0x80}, api.ErrShort},
		{[]byte{0x80, 0}, api.ErrLong},
		{[]byte{2, 5, 0x9e, 0}, api.ErrLong},
		{[]byte{2, 0x80, 0x80, 0x80, 0x80, 0x80, 0x80, 0x80, 0x80, 0x80, 2, 1}, api.ErrWide},
		{pairs(append(full, 1)...), api.ErrBig},
		{pairs(append(full, 1, 1)...), api.ErrBig},
		{[]byte{0x81, 8}, api.ErrBig}, // 1025
		{[]byte{0x80, 8}, api.ErrShort},
		{[]byte{4, 5, 0x1e, 0, 0x3c}, api.ErrIndex},
		{[]byte{4, 5, 0x1e, 2, 0}, api.ErrIndex},
		{[]byte{1, 5}, api.ErrIndex},
		{[]byte{3, 5, 0x1e, 2}, api.ErrIndex},
		{[]byte{0, 0}, api.ErrIndex},
		{[]byte{4, 5, 0x1e, 2, 0x3c, 0}, api.ErrIndex},
		{[]byte{1, 5, 7}, api.ErrIndex},
		{pairs(0, 0), api.ErrIndex},
		{pairs(0, 7), api.ErrIndex},
		{pairs(api.MaxSeq+1, 0), api.ErrIndex},
		{pairs(1, api.MaxSeq+1), api.ErrIndex},
		{pairs(1, 0, api.MaxSeq, 1), api.ErrIndex},
		{pairs(1, 1, 1, api.MaxSeq), api.ErrIndex},
		{pairs(1<<63, 0), api.ErrIndex},
		{pairs(1, 1<<63), api.ErrIndex},
		{pairs(math.MaxUint64, math.MaxUint64), api.ErrIndex},
		{pairs(5, 30, math.MaxUint64, 60), api.ErrIndex}, // 5 and 4 by a sum that wraps round
		{pairs(5, 30, math.MaxUint64-3, 60, 5, 60), api.ErrIndex},
		{pairs(5, 30, 2, math.MaxUint64), api.ErrIndex},
		{pairs(1, 30, 1<<63, 1, 1<<63, 1), api.ErrIndex},
		{pairs(1, 0, 1<<63, 1<<63, 1<<63+1, 1<<63+1), api.ErrIndex},
	} {
		if ms, bad := index.Decode(x.b); bad != x.bad || len(ms) != 0 {
			t.Errorf("Decode(%x) = %#v, %d, not %d", x.b, ms, bad, x.bad)
		}
	}
}

func TestP13_6Decode(t *testing.T) {
	for _, x := range []struct {
		b    []byte
		want []api.Mark
	}{
		{[]byte{0}, nil},
		{[]byte{4, 5, 0x1e, 2, 0x3c}, list(5, 30, 7, 90)},
		{pairs(1, 0), list(1, 0)},
		{pairs(api.MaxSeq, api.MaxSeq), list(api.MaxSeq, api.MaxSeq)},
		{pairs(1, 0, api.MaxSeq-1, api.MaxSeq), list(1, 0, api.MaxSeq, api.MaxSeq)},
	} {
		if ms, bad := index.Decode(x.b); bad != api.OK || !slices.Equal(ms, x.want) {
			t.Errorf("Decode(%x) = %#v, %d", x.b, ms, bad)
		}
	}
}

func TestP13_7ThereAndBack(t *testing.T) {
	for _, ms := range indexes() {
		b, bad := index.Encode(ms)
		if bad != api.OK {
			t.Fatalf("Encode(%#v): %d", ms, bad)
		}
		if back, bad := index.Decode(b); bad != api.OK || !slices.Equal(back, ms) {
			t.Errorf("Decode(%x) = %#v, %d, not %#v", b, back, bad, ms)
		}
	}
}

func TestP13_7WhatIsTakenIsWrittenAgain(t *testing.T) {
	r := rand.New(rand.NewSource(137))
	taken := 0
	for range 60000 {
		b, _ := index.Encode(anyIndex(r))
		for range r.Intn(3) {
			b[r.Intn(len(b))] = byte(r.Int())
		}
		b = append(b, make([]byte, r.Intn(8)/7)...)
		ms, bad := index.Decode(b)
		if bad != api.OK {
			continue
		}
		taken++
		if again, bad := index.Encode(ms); bad != api.OK || !bytes.Equal(again, b) || !index.Valid(ms) {
			t.Fatalf("%x is taken as %#v and written as %x, %d", b, ms, again, bad)
		}
	}
	if taken < 1000 {
		t.Errorf("only %d were taken", taken)
	}
}

func TestRule4NothingIsChangedOrShared(t *testing.T) {
	room := list(5, 30, 7, 90, 11, 11, 12, 12)
	before := slices.Clone(room)
	ms := room[:2]
	written, _ := index.Encode(ms)
	bytesRoom := append(slices.Clone(written), 7, 7, 7)
	bytesBefore := slices.Clone(bytesRoom)
	b := bytesRoom[:len(written)]
	read, _ := index.Decode(b)
	clear(append(read, room...))
	clear(append(written, 1, 1, 1, 1))
	index.Seek(ms, 6)
	index.Valid(ms)
	index.Last(ms, func(api.Mark) bool { return true })
	ps := []api.Placed{{At: 3, Frame: api.Frame{Seq: 4}}, {At: 5, Frame: api.Frame{Seq: 6}}}
	clear(append(index.Build(ps[:1], 1), room...))
	if ps[0].At != 3 || ps[0].Frame.Seq != 4 || ps[1].At != 5 || ps[1].Frame.Seq != 6 {
		t.Errorf("the frames were changed: %#v", ps)
	}
	if !slices.Equal(room, before) || !bytes.Equal(bytesRoom, bytesBefore) {
		t.Errorf("changed: %#v, %x", room, bytesRoom)
	}
	if again, bad := index.Decode(b); bad != api.OK || !slices.Equal(again, ms) {
		t.Errorf("%#v, %d", again, bad)
	}
}
