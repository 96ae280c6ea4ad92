package segment_test

import (
	"bytes"
	"math"
	"math/rand"
	"slices"
	"testing"

	"daybook/api"
	"daybook/frame"
	"daybook/index"
	"daybook/segment"
	"daybook/varint"
)

func written(kind, seq int, body []byte) []byte {
	b, bad := frame.Encode(api.Frame{Kind: kind, Seq: seq, Body: body})
	if bad != api.OK {
		panic(bad)
	}
	return b
}

// numbers is numbers in bytes, one behind the other.
func numbers(us ...uint64) []byte {
	var b []byte
	for _, u := range us {
		b = append(b, varint.Encode(u)...)
	}
	return b
}

func joined(parts ...[]byte) []byte {
	return bytes.Join(parts, nil)
}

func header(t *testing.T, num, first int) []byte {
	t.Helper()
	b, bad := segment.Header(num, first)
	if bad != api.OK {
		t.Fatalf("Header(%d, %d): %d", num, first, bad)
	}
	return b
}

// events is so many event frames with bodies of one byte, 21 bytes each.
func events(first, count int) []byte {
	var b []byte
	for i := range count {
		b = append(b, written(api.EventFrame, first+i, []byte{byte(i)})...)
	}
	return b
}

// open is a segment that isn't sealed.
func open(t *testing.T, num, first, count int) []byte {
	t.Helper()
	return joined(header(t, num, first), events(first, count))
}

func footer(t *testing.T, b []byte, stride int) []byte {
	t.Helper()
	foot, bad := segment.Footer(b, stride)
	if bad != api.OK {
		t.Fatalf("Footer by %d: %d", stride, bad)
	}
	return foot
}

// foot is a footer by the letter: any numbers and an index of any marks.
func foot(seq int, first, count, stride uint64, ms ...api.Mark) []byte {
	us := []uint64{}
	for i, m := range ms {
		if i > 0 {
			m.Seq, m.At = m.Seq-ms[i-1].Seq, m.At-ms[i-1].At
		}
		us = append(us, uint64(m.Seq), uint64(m.At))
	}
	return written(api.FooterFrame, seq, joined(numbers(first, count, stride), varint.EncodeAll(us)))
}

func mark(seq, at int) api.Mark {
	return api.Mark{Seq: seq, At: at}
}

func sameSegment(a, b api.Segment) bool {
	return slices.Equal(a.Marks, b.Marks) && a.Num == b.Num && a.First == b.First && a.Count == b.Count && a.Sealed == b.Sealed && a.Stride == b.Stride && a.Good == b.Good
}

func sameEvents(a, b []api.Placed) bool {
	return slices.EqualFunc(a, b, func(p, q api.Placed) bool {
		return p.At == q.At && p.Size == q.Size && p.Frame.Kind == q.Frame.Kind && p.Frame.Seq == q.Frame.Seq && bytes.Equal(p.Frame.Body, q.Frame.Body)
	})
}

// agrees holds Scan against the model, and answers what it found.
func agrees(t *testing.T, b []byte) (api.Segment, []api.Placed) {
	t.Helper()
	s, ps, bad := segment.Scan(b)
	want, wantEvents, wantBad := modelScan(b)
	if !sameSegment(s, want) || !sameEvents(ps, wantEvents) || bad != wantBad {
		t.Fatalf("Scan(%x) = %#v, %d events, %d, not %#v, %d events, %d", b, s, len(ps), bad, want, len(wantEvents), wantBad)
	}
	return s, ps
}

func TestP14_1Header(t *testing.T) {
	b := header(t, 1, 1)
	if len(b) != 22 || !bytes.Equal(b[:12], []byte{0xa5, 2, 2, 0, 1, 0, 0, 0, 0, 0, 0, 0}) || !bytes.Equal(b[16:18], []byte{1, 1}) {
		t.Errorf("the example: %x", b)
	}
	for _, num := range []int{1, 2, 127, 128, 255, 256, 65536, api.MaxNum - 1, api.MaxNum} {
		for _, first := range []int{1, 2, 127, 128, 1 << 32, api.MaxSeq - 1, api.MaxSeq, api.MaxSeq + 1} {
			want := written(api.HeaderFrame, num, numbers(uint64(num), uint64(first)))
			if got := header(t, num, first); !bytes.Equal(got, want) {
				t.Errorf("Header(%d, %d) = %x", num, first, got)
			}
			n, f, size, bad := segment.HeaderOf(want)
			if n != num || f != first || size != len(want) || bad != api.OK {
				t.Errorf("HeaderOf(%x) = %d, %d, %d, %d", want, n, f, size, bad)
			}
		}
	}
}

func TestP14_1Refused(t *testing.T) {
	for _, x := range [][2]int{
		{0, 1}, {-1, 1}, {api.MaxNum + 1, 1}, {math.MaxInt, 1}, {math.MinInt, 1},
		{1, 0}, {1, -1}, {1, api.MaxSeq + 2}, {1, math.MaxInt}, {1, math.MinInt},
		{0, 0}, {api.MaxNum + 1, api.MaxSeq + 2},
	} {
		if b, bad := segment.Header(x[0], x[1]); bad != api.ErrArg || len(b) != 0 {
			t.Errorf("Header(%d, %d) = %x, %d", x[0], x[1], b, bad)
		}
	}
}

// noHeaders is bytes that begin with no header.
func noHeaders() [][]byte {
	whole := written(api.HeaderFrame, 3, numbers(3, 7))
	all := [][]byte{
		nil,
		{},
		make([]byte, 100),
		joined([]byte{0}, whole),
		written(api.HeaderFrame, 3, nil),
		written(api.HeaderFrame, 3, numbers(3)),
		written(api.HeaderFrame, 3, numbers(3, 7, 0)),
		written(api.HeaderFrame, 3, numbers(3, 7, 1)),
		written(api.HeaderFrame, 3, []byte{3, 0x80}),
		written(api.HeaderFrame, 3, []byte{3, 0x87, 0}),
		written(api.HeaderFrame, 3, []byte{0x83, 0, 7}),
		written(api.HeaderFrame, 3, []byte{0x83}),
		written(api.HeaderFrame, 4, numbers(3, 7)),
		written(api.HeaderFrame, 0, numbers(3, 7)),
		written(api.HeaderFrame, 7, numbers(3, 7)),
		written(api.HeaderFrame, 3, numbers(7, 3)),
		written(api.HeaderFrame, 0, numbers(0, 7)),
		written(api.HeaderFrame, api.MaxNum+1, numbers(api.MaxNum+1, 7)),
		written(api.HeaderFrame, 3, numbers(3, 0)),
		written(api.HeaderFrame, 3, numbers(3, api.MaxSeq+2)),
		written(api.HeaderFrame, 3, numbers(3, 1<<63)),
		written(api.HeaderFrame, 3, numbers(3, 1<<63+7)),
		written(api.HeaderFrame, 3, numbers(3, math.MaxUint64)),
		written(api.HeaderFrame, 3, numbers(1<<63+3, 7)),
		written(api.HeaderFrame, 3, numbers(math.MaxUint64, 7)),
		written(api.HeaderFrame, 3, numbers(1<<32+3, 7)),
	}
	for kind := api.EventFrame; kind <= api.EndFrame; kind++ {
		if kind != api.HeaderFrame {
			all = append(all, written(kind, 3, numbers(3, 7)))
		}
	}
	for n := range whole {
		turned := slices.Clone(whole)
		turned[n] ^= 1
		all = append(all, whole[:n], turned)
	}
	return all
}

func TestP14_2HeaderOf(t *testing.T) {
	whole := header(t, 3, 7)
	for _, tail := range [][]byte{nil, {0}, events(7, 2), whole, make([]byte, 50)} {
		num, first, size, bad := segment.HeaderOf(joined(whole, tail))
		if num != 3 || first != 7 || size != 22 || bad != api.OK {
			t.Errorf("with %x behind: %d, %d, %d, %d", tail, num, first, size, bad)
		}
	}
	for _, b := range noHeaders() {
		for _, tail := range [][]byte{nil, events(7, 1)} {
			if tail != nil && len(b) < len(whole) {
				continue // what is torn would go on in what stands behind
			}
			num, first, size, bad := segment.HeaderOf(joined(b, tail))
			if num != 0 || first != 0 || size != 0 || bad != api.ErrHeader {
				t.Errorf("HeaderOf(%x) = %d, %d, %d, %d", b, num, first, size, bad)
			}
		}
	}
}

func TestP14_3TheExamples(t *testing.T) {
	b := open(t, 1, 1, 3)
	s, ps, bad := segment.Scan(b)
	if bad != api.OK || !sameSegment(s, api.Segment{Num: 1, First: 1, Count: 3, Good: 85}) || len(ps) != 3 {
		t.Errorf("%#v, %d events, %d", s, len(ps), bad)
	}
	for i, p := range ps {
		if p.At != 22+21*i || p.Size != 21 || p.Frame.Kind != api.EventFrame || p.Frame.Seq != 1+i || !bytes.Equal(p.Frame.Body, []byte{byte(i)}) {
			t.Errorf("event %d: %#v", i, p)
		}
	}
	sealed := joined(b, footer(t, b, 2))
	want := api.Segment{Num: 1, First: 1, Count: 3, Sealed: true, Stride: 2, Marks: []api.Mark{mark(1, 22), mark(3, 64)}, Good: 113}
	if s, ps, bad := segment.Scan(sealed); bad != api.OK || !sameSegment(s, want) || len(ps) != 3 {
		t.Errorf("%#v, %d events, %d", s, len(ps), bad)
	}
}

func TestP14_3NoHeader(t *testing.T) {
	for _, b := range noHeaders() {
		if s, ps, bad := segment.Scan(b); bad != api.ErrHeader || !sameSegment(s, api.Segment{}) || len(ps) != 0 {
			t.Errorf("Scan(%x) = %#v, %#v, %d", b, s, ps, bad)
		}
	}
}

func TestP14_3WhereTheEventsEnd(t *testing.T) {
	b := open(t, 4, 10, 2)
	good := len(b)
	for _, tail := range [][]byte{
		nil,
		{0xa5},
		make([]byte, 30),
		events(11, 1),
		events(13, 1),
		events(1, 3),
		written(api.HeaderFrame, 4, numbers(4, 12)),
		written(api.StateFrame, 12, []byte{1}),
		joined(make([]byte, 1), events(12, 3)),
		joined(written(api.BookFrame, 12, nil), events(12, 3)),
	} {
		s, ps := agrees(t, joined(b, tail))
		if s.Count != 2 || s.Good != good || s.Sealed || len(ps) != 2 {
			t.Errorf("with %x behind: %#v", tail, s)
		}
	}
	if s, _ := agrees(t, header(t, 4, 10)); s.Count != 0 || s.Good != 22 || s.First != 10 {
		t.Errorf("a header alone: %#v", s)
	}
	if s, _ := agrees(t, open(t, 4, api.MaxSeq-1, 2)); s.Count != 2 {
		t.Errorf("up to the last number: %#v", s)
	}
	if s, _ := agrees(t, joined(header(t, 4, api.MaxSeq+1), events(api.MaxSeq, 1))); s.Count != 0 || s.First != api.MaxSeq+1 {
		t.Errorf("behind the last number: %#v", s)
	}
}

func TestP14_3AtMostMaxSegEvents(t *testing.T) {
	b := open(t, 1, 1, api.MaxSegEvents)
	more := joined(b, events(513, 2))
	s, ps := agrees(t, more)
	if s.Count != 512 || len(ps) != 512 || s.Good != len(b) {
		t.Errorf("%#v", s)
	}
	if _, bad := segment.Footer(more, 1); bad != api.ErrTorn {
		t.Errorf("Footer: %d", bad)
	}
	if s, _ := agrees(t, joined(b, footer(t, b, 1), events(513, 2))); !s.Sealed || len(s.Marks) != 512 {
		t.Errorf("%#v", s)
	}
	b = open(t, 1, 1, api.MaxSegEvents-1)
	if s, _ := agrees(t, joined(b, events(512, 1))); s.Count != 512 {
		t.Errorf("%#v", s)
	}
}

func TestP14_3ForeignFooters(t *testing.T) {
	b := open(t, 2, 5, 3) // events at 22, 43, 64
	for _, x := range []struct {
		name string
		foot []byte
		ok   bool
	}{
		{"by 1", foot(2, 5, 3, 1, mark(5, 22), mark(6, 43), mark(7, 64)), true},
		{"by 2", foot(2, 5, 3, 2, mark(5, 22), mark(7, 64)), true},
		{"by 3", foot(2, 5, 3, 3, mark(5, 22)), true},
		{"by 64", foot(2, 5, 3, 64, mark(5, 22)), true},
		{"by 65", foot(2, 5, 3, 65, mark(5, 22)), false},
		{"by 0", foot(2, 5, 3, 0, mark(5, 22)), false},
		{"by 0, no marks", foot(2, 5, 3, 0), false},
		{"by far too many", foot(2, 5, 3, math.MaxUint64, mark(5, 22)), false},
		{"of another number", foot(3, 5, 3, 2, mark(5, 22), mark(7, 64)), false},
		{"of number 0", foot(0, 5, 3, 2, mark(5, 22), mark(7, 64)), false},
		{"of another kind", written(api.HeaderFrame, 2, joined(numbers(5, 3, 3), varint.EncodeAll([]uint64{5, 22}))), false},
		{"an event", written(api.EventFrame, 2, joined(numbers(5, 3, 3), varint.EncodeAll([]uint64{5, 22}))), false},
		{"another first", foot(2, 4, 3, 3, mark(5, 22)), false},
		{"another first and mark", foot(2, 4, 3, 3, mark(4, 22)), false},
		{"fewer events", foot(2, 5, 2, 3, mark(5, 22)), false},
		{"more events", foot(2, 5, 4, 64, mark(5, 22)), false},
		{"no events", foot(2, 5, 0, 3), false},
		{"the marks of another stride", foot(2, 5, 3, 1, mark(5, 22), mark(7, 64)), false},
		{"another number in a mark", foot(2, 5, 3, 2, mark(5, 22), mark(6, 64)), false},
		{"another place in a mark", foot(2, 5, 3, 2, mark(5, 22), mark(7, 65)), false},
		{"a place by the events alone", foot(2, 5, 3, 2, mark(5, 0), mark(7, 42)), false},
		{"a mark too many", foot(2, 5, 3, 3, mark(5, 22), mark(8, 85)), false},
		{"no marks", foot(2, 5, 3, 2), false},
		{"something behind the marks", written(api.FooterFrame, 2, joined(numbers(5, 3, 3), varint.EncodeAll([]uint64{5, 22}), []byte{0})), false},
		{"no body", written(api.FooterFrame, 2, nil), false},
		{"two numbers", written(api.FooterFrame, 2, numbers(5, 3)), false},
		{"no index", written(api.FooterFrame, 2, numbers(5, 3, 3)), false},
		{"half an index", written(api.FooterFrame, 2, numbers(5, 3, 3, 2, 5)), false},
		{"an odd index", written(api.FooterFrame, 2, numbers(5, 3, 3, 1, 5)), false},
		{"a number in two bytes", written(api.FooterFrame, 2, []byte{0x85, 0, 3, 3, 2, 5, 22}), false},
		{"behind a byte", joined([]byte{0}, foot(2, 5, 3, 3, mark(5, 22))), false},
	} {
		for _, tail := range [][]byte{nil, {0}, events(8, 1), x.foot} {
			s, ps := agrees(t, joined(b, x.foot, tail))
			good := len(b)
			if x.ok {
				good += len(x.foot)
			}
			if s.Sealed != x.ok || s.Good != good || len(ps) != 3 || s.Count != 3 {
				t.Errorf("%s: %#v", x.name, s)
			}
			if !x.ok && (s.Stride != 0 || len(s.Marks) != 0) {
				t.Errorf("%s: %#v", x.name, s)
			}
		}
	}
	for stride := range uint64(3) {
		if s, _ := agrees(t, joined(header(t, 2, 5), foot(2, 5, 0, stride))); s.Sealed || s.Good != 22 {
			t.Errorf("a footer of no events: %#v", s)
		}
	}
}

func TestP14_4TheExample(t *testing.T) {
	b := footer(t, open(t, 1, 1, 3), 2)
	want := written(api.FooterFrame, 1, []byte{1, 3, 2, 4, 1, 0x16, 2, 0x2a})
	if len(b) != 28 || !bytes.Equal(b, want) {
		t.Errorf("%x", b)
	}
}

func TestP14_4Refused(t *testing.T) {
	b := open(t, 1, 1, 3)
	sealed := joined(b, footer(t, b, 2))
	for _, x := range []struct {
		name   string
		b      []byte
		stride int
		bad    api.Errno
	}{
		{"stride 0", b, 0, api.ErrArg},
		{"stride 65", b, api.MaxStride + 1, api.ErrArg},
		{"stride -1", b, -1, api.ErrArg},
		{"the least stride", b, math.MinInt, api.ErrArg},
		{"the greatest stride", b, math.MaxInt, api.ErrArg},
		{"stride 0 and no header", nil, 0, api.ErrArg},
		{"stride 0 and sealed", sealed, 0, api.ErrArg},
		{"stride 0 and torn", b[:84], 65, api.ErrArg},
		{"stride 0 and no event", b[:22], 65, api.ErrArg},
		{"nothing", nil, 1, api.ErrHeader},
		{"no header", b[1:], 1, api.ErrHeader},
		{"a torn header", b[:21], 1, api.ErrHeader},
		{"sealed", sealed, 1, api.ErrSealed},
		{"sealed by that stride", sealed, 2, api.ErrSealed},
		{"sealed, and something behind", joined(sealed, []byte{0}), 1, api.ErrSealed},
		{"sealed twice", joined(sealed, sealed[85:]), 1, api.ErrSealed},
		{"torn", b[:84], 1, api.ErrTorn},
		{"a byte behind", joined(b, []byte{0}), 1, api.ErrTorn},
		{"a foreign frame behind", joined(b, events(5, 1)), 1, api.ErrTorn},
		{"a torn footer", sealed[:112], 1, api.ErrTorn},
		{"a foreign footer", joined(b, foot(1, 1, 2, 2, mark(1, 22))), 1, api.ErrTorn},
		{"torn, and no event", b[:30], 1, api.ErrTorn},
		{"no event, and a footer", joined(b[:22], foot(1, 1, 0, 1)), 1, api.ErrTorn},
		{"no event", b[:22], 1, api.ErrEmpty},
		{"no event behind the last number", header(t, 1, api.MaxSeq+1), 64, api.ErrEmpty},
	} {
		if foot, bad := segment.Footer(x.b, x.stride); bad != x.bad || len(foot) != 0 {
			t.Errorf("%s: %x, %d, not %d", x.name, foot, bad, x.bad)
		}
	}
}

func TestP14_5Closing(t *testing.T) {
	b := footer(t, open(t, 1, 1, 3), 2)
	marks := []api.Mark{mark(1, 22), mark(3, 64)}
	for _, x := range []struct {
		g  api.Seg
		ok bool
	}{
		{api.Seg{Num: 1, First: 1, Count: 3, Foot: 85}, true},
		{api.Seg{Num: 1, First: 1, Count: 3, Foot: 65}, true},
		{api.Seg{Num: 1, First: 1, Count: 3, Foot: math.MaxInt}, true},
		{api.Seg{Num: 1, First: 1, Count: 3, Foot: 64}, false},
		{api.Seg{Num: 1, First: 1, Count: 3, Foot: 22}, false},
		{api.Seg{Num: 1, First: 1, Count: 3, Foot: 0}, false},
		{api.Seg{Num: 1, First: 1, Count: 3, Foot: math.MinInt}, false},
		{api.Seg{Num: 2, First: 1, Count: 3, Foot: 85}, false},
		{api.Seg{Num: 0, First: 1, Count: 3, Foot: 85}, false},
		{api.Seg{Num: math.MaxInt, First: 1, Count: 3, Foot: 85}, false},
		{api.Seg{Num: 1, First: 2, Count: 3, Foot: 85}, false},
		{api.Seg{Num: 1, First: 0, Count: 3, Foot: 85}, false},
		{api.Seg{Num: 1, First: math.MinInt, Count: 3, Foot: 85}, false},
		{api.Seg{Num: 1, First: 1, Count: 4, Foot: 85}, false},
		{api.Seg{Num: 1, First: 1, Count: 2, Foot: 85}, false},
		{api.Seg{Num: 1, First: 1, Count: 0, Foot: 85}, false},
		{api.Seg{Num: 1, First: 1, Count: math.MaxInt, Foot: 85}, false},
		{api.Seg{Num: 1, First: 1, Count: math.MinInt, Foot: 85}, false},
		{api.Seg{}, false},
	} {
		ms, stride, bad := segment.Closing(b, x.g)
		if x.ok && (bad != api.OK || stride != 2 || !slices.Equal(ms, marks)) {
			t.Errorf("%#v: %#v, %d, %d", x.g, ms, stride, bad)
		}
		if !x.ok && (bad != api.ErrIndex || stride != 0 || len(ms) != 0) {
			t.Errorf("%#v: %#v, %d, %d", x.g, ms, stride, bad)
		}
	}
}

func TestP14_5Refused(t *testing.T) {
	g := api.Seg{Num: 2, First: 5, Count: 3, Foot: 85}
	right := foot(2, 5, 3, 2, mark(5, 22), mark(7, 64))
	cases := [][]byte{
		nil,
		{},
		joined(right, []byte{0}),
		joined(right, right),
		joined([]byte{0}, right),
		joined(events(4, 1), right),
		written(api.HeaderFrame, 2, right[16:len(right)-4]),
		written(api.EventFrame, 2, right[16:len(right)-4]),
		written(api.FooterFrame, 3, right[16:len(right)-4]),
		written(api.FooterFrame, 2, right[16:len(right)-5]),
		written(api.FooterFrame, 2, joined(right[16:len(right)-4], []byte{0})),
		written(api.FooterFrame, 2, nil),
		written(api.FooterFrame, 2, numbers(5, 3)),
		written(api.FooterFrame, 2, numbers(5, 3, 2)),
		written(api.FooterFrame, 2, numbers(5, 3, 2, 1, 5)),
		written(api.FooterFrame, 2, []byte{0x85, 0, 3, 3, 2, 5, 22}),
		foot(2, 4, 3, 2, mark(5, 22), mark(7, 64)),
		foot(2, 4, 3, 2, mark(4, 22), mark(6, 64)),
		foot(2, 5, 2, 2, mark(5, 22)),
		foot(2, 5, 4, 2, mark(5, 22), mark(7, 64)),
		foot(2, 5, 3, 0, mark(5, 22), mark(7, 64)),
		foot(2, 5, 3, 0),
		foot(2, 5, 3, 65, mark(5, 22)),
		foot(2, 5, 3, math.MaxUint64, mark(5, 22)),
		foot(2, 5, 3, 1, mark(5, 22), mark(7, 64)),
		foot(2, 5, 3, 3, mark(5, 22), mark(8, 64)),
		foot(2, 5, 3, 3, mark(5, 22), mark(7, 64)),
		foot(2, 5, 3, 2, mark(5, 22), mark(6, 64)),
		foot(2, 5, 3, 2, mark(5, 22), mark(8, 64)),
		foot(2, 5, 3, 2, mark(6, 22), mark(7, 64)),
		foot(2, 5, 3, 2, mark(5, 22), mark(7, 85)),
		foot(2, 5, 3, 2, mark(5, 85), mark(7, 86)),
		foot(2, 5, 3, 2, mark(5, 22), mark(7, 22)),
		foot(2, 5, 3, 2, mark(5, 22)),
		foot(2, 5, 3, 2),
		foot(2, 5+1<<63, 3, 2, mark(5, 22), mark(7, 64)),
		foot(2, 5, 3+1<<63, 2, mark(5, 22), mark(7, 64)),
		foot(2, 5, 3, 2+1<<63, mark(5, 22), mark(7, 64)),
	}
	for n := range right {
		turned := slices.Clone(right)
		turned[n] ^= 0x80
		cases = append(cases, right[:n], turned)
	}
	for _, b := range cases {
		if ms, stride, bad := segment.Closing(b, g); bad != api.ErrIndex || stride != 0 || len(ms) != 0 {
			t.Errorf("Closing(%x) = %#v, %d, %d", b, ms, stride, bad)
		}
	}
	if _, stride, bad := segment.Closing(right, g); bad != api.OK || stride != 2 {
		t.Errorf("the right one: %d, %d", stride, bad)
	}
}

func TestP14_5CountsThatAreNone(t *testing.T) {
	for _, x := range []struct {
		b []byte
		g api.Seg
	}{
		{foot(2, 5, 0, 2), api.Seg{Num: 2, First: 5, Foot: 85}},
		{foot(2, 5, 0, 2, mark(5, 22)), api.Seg{Num: 2, First: 5, Foot: 85}},
		{foot(2, 5, 1<<63, 64), api.Seg{Num: 2, First: 5, Count: math.MinInt, Foot: 85}},
		{foot(2, 5, math.MaxUint64, 2), api.Seg{Num: 2, First: 5, Count: -1, Foot: 85}},
		{foot(2, 5, math.MaxInt64, 64), api.Seg{Num: 2, First: 5, Count: math.MaxInt, Foot: 85}},
		{foot(2, 5, math.MaxInt64, 64, mark(5, 22)), api.Seg{Num: 2, First: 5, Count: math.MaxInt, Foot: 85}},
		{foot(2, 0, 1, 2, mark(0, 22)), api.Seg{Num: 2, Count: 1, Foot: 85}},
		{foot(2, api.MaxSeq+1, 1, 2, mark(api.MaxSeq+1, 22)), api.Seg{Num: 2, First: api.MaxSeq + 1, Count: 1, Foot: 85}},
		{foot(2, math.MaxInt64, 2, 1, mark(1, 22), mark(2, 43)), api.Seg{Num: 2, First: math.MaxInt, Count: 2, Foot: 85}},
		{foot(2, 1<<63, 2, 1, mark(1, 22), mark(2, 43)), api.Seg{Num: 2, First: math.MinInt, Count: 2, Foot: 85}},
	} {
		if ms, stride, bad := segment.Closing(x.b, x.g); bad != api.ErrIndex || stride != 0 || len(ms) != 0 {
			t.Errorf("Closing(%x, %#v) = %#v, %d, %d", x.b, x.g, ms, stride, bad)
		}
	}
	last := foot(2, api.MaxSeq, 1, 2, mark(api.MaxSeq, 0))
	if ms, stride, bad := segment.Closing(last, api.Seg{Num: 2, First: api.MaxSeq, Count: 1, Foot: 1}); bad != api.OK || stride != 2 || !slices.Equal(ms, []api.Mark{mark(api.MaxSeq, 0)}) {
		t.Errorf("the last number: %#v, %d, %d", ms, stride, bad)
	}
}

func TestP14_6ASealedOneIsFoundSealed(t *testing.T) {
	r := rand.New(rand.NewSource(146))
	counts := []int{1, 2, 3, 7, 63, 64, 65, 128, 511, 512}
	for _, count := range counts {
		for _, stride := range []int{1, 2, 3, 7, 8, 63, 64} {
			num, first := 1+r.Intn(api.MaxNum), 1+r.Intn(api.MaxSeq-count)
			b := header(t, num, first)
			for i := range count {
				body := make([]byte, r.Intn(30))
				r.Read(body)
				b = append(b, written(api.EventFrame, first+i, body)...)
			}
			foot := footer(t, b, stride)
			s, ps := agrees(t, joined(b, foot))
			if !s.Sealed || s.Num != num || s.First != first || s.Count != count || s.Stride != stride || s.Good != len(b)+len(foot) {
				t.Fatalf("%#v", s)
			}
			if !slices.Equal(s.Marks, index.Build(ps, stride)) {
				t.Fatalf("marks %#v", s.Marks)
			}
			g := api.Seg{Num: num, First: first, Count: count, Foot: len(b)}
			if ms, n, bad := segment.Closing(foot, g); bad != api.OK || n != stride || !slices.Equal(ms, s.Marks) {
				t.Fatalf("Closing: %#v, %d, %d", ms, n, bad)
			}
		}
	}
}

func TestP14_6TheGreatestSegment(t *testing.T) {
	b := header(t, api.MaxNum, api.MaxSeq-511)
	for i := range 512 {
		b = append(b, written(api.EventFrame, api.MaxSeq-511+i, make([]byte, api.MaxBody))...)
	}
	for _, stride := range []int{1, 64} {
		foot := footer(t, b, stride)
		s, ps, bad := segment.Scan(joined(b, foot))
		if bad != api.OK || !s.Sealed || s.Count != 512 || len(ps) != 512 || len(s.Marks) != 512/stride || s.Good != len(b)+len(foot) {
			t.Errorf("by %d: %d events, %d marks, good to %d, %d", stride, s.Count, len(s.Marks), s.Good, bad)
		}
	}
}

func TestP14_6ATornOneHasTheWholeEvents(t *testing.T) {
	b := header(t, 6, 300)
	ends := []int{len(b)}
	for i := range 6 {
		b = append(b, written(api.EventFrame, 300+i, make([]byte, i*3))...)
		ends = append(ends, len(b))
	}
	sealed := joined(b, footer(t, b, 2))
	_, all, _ := segment.Scan(sealed)
	for cut := range sealed {
		s, ps, bad := segment.Scan(sealed[:cut])
		if cut < ends[0] {
			if bad != api.ErrHeader || !sameSegment(s, api.Segment{}) || len(ps) != 0 {
				t.Errorf("cut at %d: %#v, %d", cut, s, bad)
			}
			continue
		}
		whole := 0
		for whole+1 < len(ends) && ends[whole+1] <= cut {
			whole++
		}
		want := api.Segment{Num: 6, First: 300, Count: whole, Good: ends[whole]}
		if bad != api.OK || !sameSegment(s, want) || !sameEvents(ps, all[:whole]) {
			t.Errorf("cut at %d: %#v, not %#v", cut, s, want)
		}
	}
}

func TestP14_6ATurnedBitEndsIt(t *testing.T) {
	b := open(t, 6, 300, 4)
	sealed := joined(b, footer(t, b, 2))
	for at := range sealed {
		turned := slices.Clone(sealed)
		turned[at] ^= byte(1 << (at % 8))
		s, ps, bad := segment.Scan(turned)
		switch head := len(b) - 4*21; {
		case at < head:
			if bad != api.ErrHeader {
				t.Errorf("byte %d: %#v, %d", at, s, bad)
			}
		default:
			whole := min((at-head)/21, 4)
			if bad != api.OK || s.Sealed || s.Count != whole || len(ps) != whole || s.Good != head+21*whole {
				t.Errorf("byte %d: %#v, %d", at, s, bad)
			}
		}
	}
}

// spoilt changes some of the frames, so that what is read is near to a segment and often none.
func spoilt(r *rand.Rand) []byte {
	num, first, count := 1+r.Intn(3), 1+r.Intn(5), r.Intn(5)
	b := written(api.HeaderFrame, num, numbers(uint64(num), uint64(first)))
	var ms []api.Mark
	stride := r.Intn(4)
	for i := range count {
		if stride > 0 && i%stride == 0 {
			ms = append(ms, mark(first+i, len(b)))
		}
		b = append(b, written(api.EventFrame, first+i, make([]byte, r.Intn(3)))...)
	}
	of := []int{num, first, count, stride}
	if r.Intn(2) == 0 {
		of[r.Intn(4)] += r.Intn(3)
	}
	if len(ms) > 0 && r.Intn(6) == 0 {
		ms = ms[:len(ms)-1]
	}
	b = append(b, foot(of[0], uint64(of[1]), uint64(of[2]), uint64(of[3]), ms...)...)
	if r.Intn(6) == 0 {
		b = b[:r.Intn(len(b))]
	}
	return append(b, make([]byte, r.Intn(3))...)
}

func TestP14_3AnySegment(t *testing.T) {
	r := rand.New(rand.NewSource(143))
	sealed := 0
	for range 20000 {
		if s, _ := agrees(t, spoilt(r)); s.Sealed {
			sealed++
		}
	}
	if sealed < 2000 {
		t.Errorf("only %d were sealed", sealed)
	}
}

func TestP14_2AnyHeader(t *testing.T) {
	r := rand.New(rand.NewSource(142))
	for range 20000 {
		b := spoilt(r)
		if r.Intn(2) == 0 {
			b = written(1+r.Intn(3), r.Intn(3), numbers(uint64(r.Intn(3)), r.Uint64()>>r.Intn(64)))
		}
		num, first, size, bad := segment.HeaderOf(b)
		n, f, s, e := modelHeader(b)
		if num != n || first != f || size != s || bad != e {
			t.Fatalf("HeaderOf(%x) = %d, %d, %d, %d", b, num, first, size, bad)
		}
	}
}

func TestP14_5AnyFooter(t *testing.T) {
	r := rand.New(rand.NewSource(145))
	taken := 0
	for range 40000 {
		first, count, stride := 1+r.Intn(3), r.Intn(6), 1+r.Intn(4)
		var ms []api.Mark
		at := 0
		for i := 0; i < count; i += stride {
			at += 1 + r.Intn(40)
			ms = append(ms, mark(first+i, at))
		}
		g := api.Seg{Num: 1, First: first, Count: count, Foot: at + r.Intn(3)}
		switch r.Intn(8) {
		case 0:
			count += r.Intn(5)
		case 1:
			stride += r.Intn(70)
		case 2:
			g.First++
		case 3:
			g.Count = r.Intn(6)
		case 4:
			g.Num = r.Intn(3)
		}
		b := foot(1, uint64(first), uint64(count), uint64(stride), ms...)
		marks, n, bad := segment.Closing(b, g)
		want, wantStride, wantBad := modelClosing(b, g)
		if !slices.Equal(marks, want) || n != wantStride || bad != wantBad {
			t.Fatalf("Closing(%x, %#v) = %#v, %d, %d, not %#v, %d, %d", b, g, marks, n, bad, want, wantStride, wantBad)
		}
		if bad == api.OK {
			taken++
		}
	}
	if taken < 5000 {
		t.Errorf("only %d were taken", taken)
	}
}

func TestRule4NothingIsChangedOrShared(t *testing.T) {
	b := open(t, 1, 1, 4)
	foot := footer(t, b, 2)
	g := api.Seg{Num: 1, First: 1, Count: 4, Foot: len(b)}
	room := joined(b, foot, bytes.Repeat([]byte{7}, 40))
	before := slices.Clone(room)
	whole := room[: len(b)+len(foot) : len(room)]
	s, ps, _ := segment.Scan(whole)
	marks, _, _ := segment.Closing(room[len(b):len(b)+len(foot)], g)
	again, _ := segment.Footer(room[:len(b)], 2)
	segment.HeaderOf(whole)
	for i := range ps {
		clear(append(ps[i].Frame.Body, 1, 2, 3, 4, 5, 6, 7, 8, 9))
		ps[i].Frame.Body[0] = 99
	}
	clear(append(s.Marks, mark(9, 9), mark(9, 9)))
	clear(append(marks, mark(9, 9), mark(9, 9)))
	clear(append(again, 1, 1, 1))
	if !bytes.Equal(room, before) {
		t.Errorf("changed: %x", room)
	}
	agrees(t, whole)
	if got := footer(t, b, 2); !bytes.Equal(got, foot) {
		t.Errorf("%x, not %x", got, foot)
	}
}

func TestRule1AnyBytes(t *testing.T) {
	r := rand.New(rand.NewSource(147))
	for range 5000 {
		b := spoilt(r)
		for range r.Intn(3) {
			if len(b) > 0 {
				b[r.Intn(len(b))] = byte(r.Int())
			}
		}
		agrees(t, b)
		segment.Footer(b, r.Intn(70)-2)
		if len(b) > 0 {
			b = b[r.Intn(len(b)):]
		}
		g := api.Seg{Num: int(r.Uint64()), First: int(r.Uint64()), Count: int(r.Uint64()), Foot: int(r.Uint64())}
		segment.Closing(b, g)
		agrees(t, b)
	}
}
