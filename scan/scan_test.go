package scan_test

import (
	"bytes"
	"math"
	"math/rand"
	"reflect"
	"slices"
	"testing"

	"daybook/api"
	"daybook/crc"
	"daybook/frame"
	"daybook/scan"
)

func written(kind, seq int, body ...byte) []byte {
	b, bad := frame.Encode(api.Frame{Kind: kind, Seq: seq, Body: body})
	if bad != api.OK {
		panic(bad)
	}
	return b
}

// events is event frames of these numbers, 21 bytes each.
func events(seqs ...int) []byte {
	var b []byte
	for i, seq := range seqs {
		b = append(b, written(api.EventFrame, seq, byte(i))...)
	}
	return b
}

func joined(parts ...[]byte) []byte {
	return bytes.Join(parts, nil)
}

// noKind is a frame whose sums fit and whose kind is none.
func noKind() []byte {
	b := written(api.EndFrame, 1, 9)
	b[1] = 8
	copy(b[12:], crc.Four(crc.Sum(b[:12])))
	return b
}

// turned is b with the byte at a place, counted from the end if below 0, turned.
func turned(b []byte, at int) []byte {
	c := slices.Clone(b)
	if at < 0 {
		at += len(c)
	}
	c[at] ^= 0x10
	return c
}

// ends is what may stand behind whole frames, and what frame.Decode says to it.
func ends() []struct {
	b   []byte
	bad api.Errno
} {
	whole := written(api.EventFrame, 3, 1, 2, 3)
	return []struct {
		b   []byte
		bad api.Errno
	}{
		{nil, api.OK},
		{[]byte{0}, api.ErrTorn},
		{make([]byte, 15), api.ErrTorn},
		{whole[:1], api.ErrTorn},
		{whole[:16], api.ErrTorn},
		{whole[:len(whole)-1], api.ErrTorn},
		{make([]byte, 16), api.ErrMark},
		{joined([]byte{0}, whole), api.ErrMark},
		{turned(whole, 0), api.ErrMark},
		{joined(turned(whole, 0), whole, whole), api.ErrMark},
		{turned(whole, 5), api.ErrSum},
		{turned(whole, 17), api.ErrSum},
		{joined(turned(whole, -1), whole), api.ErrSum},
		{noKind(), api.ErrRange},
		{joined(noKind(), whole), api.ErrRange},
	}
}

// some is frames of any kind behind one another, and where each is.
func some(r *rand.Rand, count int) ([]byte, []api.Placed) {
	var b []byte
	var ps []api.Placed
	for range count {
		f := api.Frame{Kind: 1 + r.Intn(7), Seq: r.Intn(api.MaxSeq + 1), Body: make([]byte, r.Intn(40))}
		r.Read(f.Body)
		c := written(f.Kind, f.Seq, f.Body...)
		ps = append(ps, api.Placed{At: len(b), Size: len(c), Frame: f})
		b = append(b, c...)
	}
	return b, ps
}

func same(a, b []api.Placed) bool {
	return slices.EqualFunc(a, b, func(p, q api.Placed) bool {
		return p.At == q.At && p.Size == q.Size && p.Frame.Kind == q.Frame.Kind && p.Frame.Seq == q.Frame.Seq && bytes.Equal(p.Frame.Body, q.Frame.Body)
	})
}

// gone is what a way through the iterator of b comes by.
func gone(b []byte) []api.Placed {
	var ps []api.Placed
	for at, f := range scan.Each(b) {
		ps = append(ps, api.Placed{At: at, Size: len(f.Body) + 20, Frame: f})
	}
	return ps
}

func TestP12_1TheFramesInTurn(t *testing.T) {
	r := rand.New(rand.NewSource(121))
	for count := range 12 {
		for _, end := range ends() {
			b, want := some(r, count)
			b = append(b, end.b...)
			if got := gone(b); !same(got, want) {
				t.Fatalf("Each(%x): %#v, not %#v", b, got, want)
			}
		}
	}
	for _, n := range []int{0, api.MaxBody - 1, api.MaxBody} {
		b := joined(written(api.StateFrame, n, make([]byte, n)...), events(1))
		if got := gone(b); len(got) != 2 || got[1].At != n+20 || len(got[0].Frame.Body) != n {
			t.Errorf("a body of %d bytes: %d frames", n, len(got))
		}
	}
}

func TestP12_1Nothing(t *testing.T) {
	for _, b := range [][]byte{nil, {}, {0xa5}, make([]byte, 100)} {
		for at, f := range scan.Each(b) {
			t.Errorf("Each(%x): %d, %#v", b, at, f)
		}
	}
}

func TestP12_1LeftEarlyAndGoneThroughAgain(t *testing.T) {
	b, want := some(rand.New(rand.NewSource(122)), 9)
	each := scan.Each(b)
	for stop := range 12 {
		calls := 0
		each(func(at int, f api.Frame) bool {
			if at != want[calls].At || f.Seq != want[calls].Frame.Seq {
				t.Fatalf("%d: %d, %#v", calls, at, f)
			}
			calls++
			return calls != stop
		})
		if stop > 0 && stop <= 9 && calls != stop || (stop == 0 || stop > 9) && calls != 9 {
			t.Errorf("left behind %d: %d calls", stop, calls)
		}
	}
	pairs := 0
	for a := range each {
		for c := range each {
			if c > a {
				break
			}
			pairs++
		}
	}
	if pairs != 45 {
		t.Errorf("one way within another: %d", pairs)
	}
}

func TestP12_1ReadWhileGoneThrough(t *testing.T) {
	b := events(5, 6, 7)
	each := scan.Each(b)
	copy(b, events(8))
	var seqs []int
	for at, f := range each {
		seqs = append(seqs, f.Seq)
		if at == 0 {
			b[42] = 0
		}
	}
	if !slices.Equal(seqs, []int{8, 6}) {
		t.Errorf("%v", seqs)
	}
}

func TestP12_2TheExample(t *testing.T) {
	ps, n, bad := scan.All(append(events(5, 6), 0, 0, 0))
	want := []api.Placed{
		{At: 0, Size: 21, Frame: api.Frame{Kind: api.EventFrame, Seq: 5, Body: []byte{0}}},
		{At: 21, Size: 21, Frame: api.Frame{Kind: api.EventFrame, Seq: 6, Body: []byte{1}}},
	}
	if !same(ps, want) || n != 42 || bad != api.ErrTorn {
		t.Errorf("%#v, %d, %d", ps, n, bad)
	}
}

func TestP12_2All(t *testing.T) {
	r := rand.New(rand.NewSource(123))
	for count := range 12 {
		for _, end := range ends() {
			whole, want := some(r, count)
			ps, n, bad := scan.All(append(slices.Clone(whole), end.b...))
			if !same(ps, want) || n != len(whole) || bad != end.bad {
				t.Fatalf("%d frames and %x: %#v, %d, %d", count, end.b, ps, n, bad)
			}
		}
	}
}

func TestP12_3TheExamples(t *testing.T) {
	b := events(5, 6, 8)
	for _, x := range []struct{ at, first, most, place, count, end int }{
		{0, 5, 9, 0, 2, 42},
		{0, 5, 1, 0, 1, 21},
		{21, 6, 9, 21, 1, 42},
		{0, 6, 9, 0, 0, 0},
	} {
		ps, end := scan.Run(b, x.at, x.first, x.most)
		if len(ps) != x.count || end != x.end || x.count > 0 && (ps[0].At != x.place || ps[0].Size != 21 || ps[0].Frame.Seq != x.first) {
			t.Errorf("%v: %#v, %d", x, ps, end)
		}
	}
}

func TestP12_3Edges(t *testing.T) {
	b := joined(events(5, 6), written(api.FooterFrame, 7), events(7, 8), []byte{1, 2})
	for _, x := range []struct{ at, first, most, count, end int }{
		{-1, 5, 9, 0, 0},
		{math.MinInt, 5, 9, 0, 0},
		{len(b) + 1, 5, 9, 0, 0},
		{math.MaxInt, 5, 9, 0, 0},
		{len(b), 5, 9, 0, len(b)},
		{len(b) - 1, 5, 9, 0, len(b) - 1},
		{0, 5, 0, 0, 0},
		{21, 6, 0, 0, 21},
		{21, 6, -1, 0, 21},
		{21, 6, math.MinInt, 0, 21},
		{0, 5, 2, 2, 42},
		{0, 5, 3, 2, 42}, // what stands behind is no event
		{0, 5, math.MaxInt, 2, 42},
		{42, 7, 9, 0, 42},
		{62, 7, 9, 2, 104},
		{62, 7, 1, 1, 83},
		{83, 8, 9, 1, 104},
		{1, 5, 9, 0, 1}, // in the midst of a frame
		{20, 6, 9, 0, 20},
		{0, 4, 9, 0, 0},
		{0, 0, 9, 0, 0},
		{0, -5, 9, 0, 0},
		{0, math.MaxInt, 9, 0, 0},
		{0, math.MinInt, 9, 0, 0},
	} {
		ps, end := scan.Run(b, x.at, x.first, x.most)
		if len(ps) != x.count || end != x.end {
			t.Errorf("%v: %#v, %d", x, ps, end)
		}
	}
	if ps, end := scan.Run(nil, 0, 1, 9); len(ps) != 0 || end != 0 {
		t.Errorf("of nothing: %#v, %d", ps, end)
	}
	if ps, end := scan.Run(events(0, 1), 0, 0, 9); len(ps) != 2 || end != 42 {
		t.Errorf("from number 0 on: %#v, %d", ps, end)
	}
	last := events(api.MaxSeq-1, api.MaxSeq)
	if ps, end := scan.Run(last, 0, api.MaxSeq-1, 9); len(ps) != 2 || end != 42 {
		t.Errorf("up to the last number: %#v, %d", ps, end)
	}
}

// run is Run by the letter of the chapter.
func run(b []byte, at, first, most int) ([]api.Placed, int) {
	if at < 0 || at > len(b) {
		return nil, 0
	}
	var ps []api.Placed
	for len(ps) < most {
		f, size, bad := frame.Decode(b[at:])
		if bad != api.OK || f.Kind != api.EventFrame || f.Seq != first {
			break
		}
		ps = append(ps, api.Placed{At: at, Size: size, Frame: f})
		at, first = at+size, first+1
	}
	return ps, at
}

func TestP12_3AnyRun(t *testing.T) {
	r := rand.New(rand.NewSource(124))
	for range 3000 {
		var b []byte
		places := []int{-1, 0}
		seq := r.Intn(5)
		for range r.Intn(8) {
			kind := api.EventFrame
			if r.Intn(9) == 0 {
				kind = 1 + r.Intn(7)
			}
			b = append(b, written(kind, seq, make([]byte, r.Intn(9))...)...)
			places = append(places, len(b))
			if r.Intn(6) > 0 {
				seq++
			}
		}
		if r.Intn(4) == 0 && len(b) > 0 {
			b = turned(b, r.Intn(len(b)))
		}
		b = append(b, make([]byte, r.Intn(3))...)
		at := places[r.Intn(len(places))]
		first, most := r.Intn(8), r.Intn(9)-1
		got, end := scan.Run(b, at, first, most)
		want, wantEnd := run(b, at, first, most)
		if !same(got, want) || end != wantEnd {
			t.Fatalf("Run(%x, %d, %d, %d) = %#v, %d, not %#v, %d", b, at, first, most, got, end, want, wantEnd)
		}
	}
}

func TestRule4NothingIsChangedOrShared(t *testing.T) {
	room := joined(events(1, 2, 3), []byte{7, 7, 7, 7, 7})
	b := room[:63]
	before := slices.Clone(room)
	ask := func() []any {
		all, n, bad := scan.All(b)
		ran, end := scan.Run(b, 21, 2, 9)
		return []any{gone(b), all, n, bad, ran, end}
	}
	want := ask()
	for _, answer := range ask() {
		if ps, ok := answer.([]api.Placed); ok {
			for i := range ps {
				body := append(ps[i].Frame.Body, 99, 99, 99, 99, 99, 99, 99)
				clear(body)
				ps[i].Frame.Body[0] = 200
			}
		}
	}
	if !bytes.Equal(room, before) {
		t.Errorf("the bytes were changed: %x", room)
	}
	if got := ask(); !reflect.DeepEqual(got, want) {
		t.Errorf("%#v, not %#v", got, want)
	}
	all, _, _ := scan.All(b)
	all[0].Frame.Body = append(all[0].Frame.Body, bytes.Repeat([]byte{99}, 50)...)
	if !same(all[1:], gone(b)[1:]) {
		t.Errorf("two bodies share memory: %#v", all)
	}
}

func TestRule1AnyBytes(t *testing.T) {
	r := rand.New(rand.NewSource(125))
	for range 2000 {
		b, _ := some(r, r.Intn(4))
		b = append(b, make([]byte, r.Intn(50))...)
		for range r.Intn(4) {
			if len(b) > 0 {
				b[r.Intn(len(b))] = byte(r.Int())
			}
		}
		all, n, bad := scan.All(b)
		if !same(all, gone(b)) || n > len(b) || (bad == api.OK) != (n == len(b)) {
			t.Fatalf("All(%x) = %#v, %d, %d", b, all, n, bad)
		}
		scan.Run(b, int(r.Uint64()), int(r.Uint64()), int(r.Uint64()))
		scan.Run(b, r.Intn(len(b)+1), int(r.Uint64()), int(r.Uint64()))
	}
}
