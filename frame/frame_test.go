package frame_test

import (
	"bytes"
	"encoding/binary"
	"hash/crc32"
	"math"
	"math/rand"
	"slices"
	"testing"

	"daybook/api"
	"daybook/frame"
)

// laid is any kind, length and number as a head by the letter of the chapter, its sum right.
func laid(mark, kind byte, length uint16, seq uint64) []byte {
	b := []byte{mark, kind}
	b = binary.LittleEndian.AppendUint16(b, length)
	b = binary.LittleEndian.AppendUint64(b, seq)
	return binary.LittleEndian.AppendUint32(b, crc32.ChecksumIEEE(b))
}

// written is a frame by the letter of the chapter.
func written(kind byte, seq uint64, body []byte) []byte {
	b := append(laid(0xa5, kind, uint16(len(body)), seq), body...)
	return binary.LittleEndian.AppendUint32(b, crc32.ChecksumIEEE(body))
}

func random(r *rand.Rand, n int) []byte {
	b := make([]byte, n)
	r.Read(b)
	return b
}

// frames is frames of every kind, with the bodies and numbers at the edges among them.
func frames() []api.Frame {
	r := rand.New(rand.NewSource(11))
	var all []api.Frame
	for kind := api.EventFrame; kind <= api.EndFrame; kind++ {
		for _, seq := range []int{0, 1, 5, 255, 256, 1<<32 - 1, 1 << 32, api.MaxSeq - 1, api.MaxSeq, r.Intn(api.MaxSeq)} {
			for _, n := range []int{0, 1, 2, 4, 15, 16, 255, 256, 257} {
				all = append(all, api.Frame{Kind: kind, Seq: seq, Body: random(r, n)})
			}
		}
	}
	for _, n := range []int{4095, 4096, api.MaxBody - 1, api.MaxBody} {
		all = append(all, api.Frame{Kind: api.StateFrame, Seq: n, Body: random(r, n)}, api.Frame{Kind: api.BookFrame, Seq: 1, Body: make([]byte, n)})
	}
	return all
}

func same(a, b api.Frame) bool {
	return a.Kind == b.Kind && a.Seq == b.Seq && bytes.Equal(a.Body, b.Body)
}

func encoded(t *testing.T, f api.Frame) []byte {
	t.Helper()
	b, bad := frame.Encode(f)
	if bad != api.OK {
		t.Fatalf("Encode(%d, %d, %d bytes): %d", f.Kind, f.Seq, len(f.Body), bad)
	}
	return b
}

// refused asks all three that read for one error, and for nothing beside it.
func refused(t *testing.T, b []byte, peek, decode api.Errno) {
	t.Helper()
	kind, seq, size, bad := frame.Peek(b)
	if bad != peek || peek != api.OK && (kind != 0 || seq != 0 || size != 0) {
		t.Errorf("Peek(%.40x) = %d, %d, %d, %d", b, kind, seq, size, bad)
	}
	if f, n, bad := frame.Decode(b); bad != decode || n != 0 || !same(f, api.Frame{}) {
		t.Errorf("Decode(%.40x) = %#v, %d, %d", b, f, n, bad)
	}
	for kind := -1; kind <= 8; kind++ {
		if f, bad := frame.Whole(b, kind); bad != decode || !same(f, api.Frame{}) {
			t.Errorf("Whole(%.40x, %d) = %#v, %d", b, kind, f, bad)
		}
	}
}

func TestP11_1Size(t *testing.T) {
	for n := range api.MaxBody + 1 {
		if frame.Size(n) != n+20 {
			t.Fatalf("Size(%d) = %d", n, frame.Size(n))
		}
	}
	for _, n := range []int{-1, -20, -21, api.MaxBody + 1, api.MaxBody + 20, 65535, 65536, math.MaxInt, math.MaxInt - 20, math.MinInt} {
		if frame.Size(n) != 0 {
			t.Errorf("Size(%d) = %d", n, frame.Size(n))
		}
	}
}

func TestP11_2TheExample(t *testing.T) {
	b := encoded(t, api.Frame{Kind: 1, Seq: 5, Body: []byte{0}})
	head := []byte{0xa5, 1, 1, 0, 5, 0, 0, 0, 0, 0, 0, 0}
	if len(b) != 21 || !bytes.Equal(b[:12], head) || !bytes.Equal(b[16:], []byte{0, 0x8d, 0xef, 2, 0xd2}) {
		t.Errorf("%x", b)
	}
}

func TestP11_2Encode(t *testing.T) {
	for _, f := range frames() {
		b := encoded(t, f)
		if !bytes.Equal(b, written(byte(f.Kind), uint64(f.Seq), f.Body)) || len(b) != frame.Size(len(f.Body)) {
			t.Errorf("Encode(%d, %d, %d bytes) = %.60x", f.Kind, f.Seq, len(f.Body), b)
		}
	}
	if !bytes.Equal(encoded(t, api.Frame{Kind: 1}), encoded(t, api.Frame{Kind: 1, Body: []byte{}})) {
		t.Error("no body and an empty one")
	}
}

func TestP11_2Refused(t *testing.T) {
	big := make([]byte, api.MaxBody+1)
	for _, x := range []struct {
		kind, seq int
		body      []byte
		want      api.Errno
	}{
		{0, 0, nil, api.ErrRange},
		{8, 0, nil, api.ErrRange},
		{-1, 0, nil, api.ErrRange},
		{257, 0, nil, api.ErrRange},
		{-255, 0, nil, api.ErrRange},
		{math.MaxInt, 0, nil, api.ErrRange},
		{math.MinInt, 0, nil, api.ErrRange},
		{1, -1, nil, api.ErrRange},
		{7, api.MaxSeq + 1, nil, api.ErrRange},
		{1, math.MaxInt, nil, api.ErrRange},
		{1, math.MinInt, nil, api.ErrRange},
		{1, 0, big, api.ErrBig},
		{7, api.MaxSeq, make([]byte, 65536), api.ErrBig},
		{0, 0, big, api.ErrRange}, // the error that is named first
		{8, 0, big, api.ErrRange},
		{1, -1, big, api.ErrRange},
		{1, api.MaxSeq + 1, big, api.ErrRange},
	} {
		if b, bad := frame.Encode(api.Frame{Kind: x.kind, Seq: x.seq, Body: x.body}); bad != x.want || len(b) != 0 {
			t.Errorf("Encode(%d, %d, %d bytes) = %d bytes, %d", x.kind, x.seq, len(x.body), len(b), bad)
		}
	}
}

func TestP11_3Peek(t *testing.T) {
	r := rand.New(rand.NewSource(12))
	for _, f := range frames() {
		b := encoded(t, f)
		other := append(slices.Clone(b[:16]), random(r, r.Intn(50))...)
		for _, b := range [][]byte{b, b[:16], b[:17], b[:len(b)-1], append(slices.Clone(b), 1, 2, 3), other} {
			kind, seq, size, bad := frame.Peek(b)
			if kind != f.Kind || seq != f.Seq || size != len(f.Body)+20 || bad != api.OK {
				t.Errorf("Peek of %d, %d, %d bytes = %d, %d, %d, %d", f.Kind, f.Seq, len(f.Body), kind, seq, size, bad)
			}
		}
	}
}

func TestP11_3Refused(t *testing.T) {
	for n := range 16 { // a head that is not whole is torn, whatever is in it
		refused(t, make([]byte, n), api.ErrTorn, api.ErrTorn)
		refused(t, bytes.Repeat([]byte{0xa5}, n), api.ErrTorn, api.ErrTorn)
	}
	refused(t, nil, api.ErrTorn, api.ErrTorn)
	refused(t, make([]byte, 16), api.ErrMark, api.ErrMark)
	refused(t, bytes.Repeat([]byte{0xa5}, 16), api.ErrSum, api.ErrSum)
	for mark := range 256 {
		if mark != 0xa5 { // the mark is looked at ahead of the sum and of the bounds
			refused(t, laid(byte(mark), 1, 0, 0), api.ErrMark, api.ErrMark)
			refused(t, append([]byte{byte(mark)}, make([]byte, 40)...), api.ErrMark, api.ErrMark)
			refused(t, laid(byte(mark), 0, 65535, math.MaxUint64), api.ErrMark, api.ErrMark)
		}
	}
}

func TestP11_3HeadsOutOfBounds(t *testing.T) {
	body := make([]byte, 70000)
	for _, x := range []struct {
		kind   byte
		length uint16
		seq    uint64
	}{
		{0, 0, 0}, {8, 0, 0}, {9, 0, 0}, {128, 0, 0}, {129, 0, 0}, {255, 0, 0},
		{1, api.MaxBody + 1, 0}, {7, 65535, 0}, {1, 1 << 15, 0},
		{1, 0, api.MaxSeq + 1}, {1, 0, 1 << 41}, {1, 0, 1 << 62}, {1, 0, math.MaxInt64}, {1, 0, 1 << 63}, {1, 0, 1<<63 + 5}, {1, 0, math.MaxUint64}, {1, 0, math.MaxUint64 - 1<<40},
		{0, 65535, math.MaxUint64},
	} {
		head := laid(0xa5, x.kind, x.length, x.seq)
		refused(t, head, api.ErrRange, api.ErrRange)
		refused(t, append(head, body...), api.ErrRange, api.ErrRange)
		for at := 12; at < 16; at++ { // the sum is looked at ahead of the bounds
			turned := slices.Clone(head[:16])
			turned[at] ^= 0x10
			refused(t, turned, api.ErrSum, api.ErrSum)
		}
	}
	for kind := range 256 {
		head := laid(0xa5, byte(kind), 3, 9)
		want := api.ErrRange
		if kind >= 1 && kind <= 7 {
			want = api.OK
		}
		if _, _, _, bad := frame.Peek(head); bad != want {
			t.Errorf("the kind %d: %d", kind, bad)
		}
	}
}

func TestP11_4Decode(t *testing.T) {
	r := rand.New(rand.NewSource(13))
	for _, f := range frames() {
		b := encoded(t, f)
		for _, rest := range []int{0, 1, 4, 21, r.Intn(100)} {
			got, n, bad := frame.Decode(append(slices.Clone(b), random(r, rest)...))
			if !same(got, f) || n != len(b) || bad != api.OK {
				t.Fatalf("Decode of %d, %d, %d bytes, with %d behind = %d, %d, %d bytes, %d, %d", f.Kind, f.Seq, len(f.Body), rest, got.Kind, got.Seq, len(got.Body), n, bad)
			}
		}
	}
}

func TestP11_4TheExamples(t *testing.T) {
	b := encoded(t, api.Frame{Kind: 1, Seq: 5, Body: []byte{0}})
	refused(t, b[:20], api.OK, api.ErrTorn)
	refused(t, b[:15], api.ErrTorn, api.ErrTorn)
	for bit := range 8 {
		turned := slices.Clone(b)
		turned[20] ^= 1 << bit
		refused(t, turned, api.OK, api.ErrSum)
	}
	refused(t, []byte{}, api.ErrTorn, api.ErrTorn)
	refused(t, make([]byte, 16), api.ErrMark, api.ErrMark)
}

func TestP11_4TornAheadOfTheSum(t *testing.T) {
	b := append(laid(0xa5, 1, 8, 3), []byte("no such sum")...) // 11 of the 12 bytes behind the head
	refused(t, b, api.OK, api.ErrTorn)
	refused(t, append(b, '!'), api.OK, api.ErrSum)
	refused(t, append(b, '!', '!'), api.OK, api.ErrSum)
}

func TestP11_5Whole(t *testing.T) {
	for _, f := range frames() {
		b := encoded(t, f)
		for kind := -1; kind <= 9; kind++ {
			got, bad := frame.Whole(b, kind)
			if kind == f.Kind && (bad != api.OK || !same(got, f)) {
				t.Fatalf("Whole of %d, %d, %d bytes = %#v, %d", f.Kind, f.Seq, len(f.Body), got, bad)
			}
			if kind != f.Kind && (bad != api.ErrRange || !same(got, api.Frame{})) {
				t.Fatalf("Whole of the kind %d, asked for %d = %#v, %d", f.Kind, kind, got, bad)
			}
			for _, rest := range [][]byte{{0}, {0xa5}, b} {
				if got, bad := frame.Whole(append(slices.Clone(b), rest...), kind); bad != api.ErrRange || !same(got, api.Frame{}) {
					t.Fatalf("Whole with %d bytes behind = %#v, %d", len(rest), got, bad)
				}
			}
		}
	}
	b := encoded(t, api.Frame{Kind: 3, Seq: 9, Body: []byte("abc")})
	for _, kind := range []int{3 + 256, 3 - 256, math.MinInt, math.MaxInt} {
		if _, bad := frame.Whole(b, kind); bad != api.ErrRange {
			t.Errorf("Whole, asked for %d: %d", kind, bad)
		}
	}
}

// runs turns one run of bits of b in every place: the bits of pattern, the lowest of which is laid at the bit at.
func runs(b []byte, pattern uint32, do func(at int, turned []byte)) {
	turned := slices.Clone(b)
	for at := range 8 * len(b) {
		if at+32 > 8*len(b) && pattern>>(8*len(b)-at) != 0 {
			continue // the run would go beyond the frame
		}
		flip(turned, pattern, at)
		do(at, turned)
		flip(turned, pattern, at)
	}
}

func flip(b []byte, pattern uint32, at int) {
	for i := range 32 {
		if pattern>>i&1 == 1 {
			b[(at+i)/8] ^= 1 << ((at + i) % 8)
		}
	}
}

func TestP11_6NoTurnedFrameIsRead(t *testing.T) {
	r := rand.New(rand.NewSource(14))
	patterns := []uint32{1, 3, 5, 0xff, 0xffff, 0xffffff, 0xffffffff, 0x80000001, 0xEDB88320, 0xDB710641, 0x04C11DB7, 0xA5A5A5A5}
	for range 60 {
		patterns = append(patterns, r.Uint32()>>r.Intn(32)|1)
	}
	for _, f := range []api.Frame{{Kind: 1}, {Kind: 1, Seq: 5, Body: []byte{0}}, {Kind: 7, Seq: api.MaxSeq, Body: random(r, 3)}, {Kind: 4, Seq: 1, Body: make([]byte, 40)}, {Kind: 2, Seq: 77, Body: random(r, 100)}} {
		b := encoded(t, f)
		for _, pattern := range patterns {
			runs(b, pattern, func(at int, turned []byte) {
				want := api.ErrSum
				if turned[0] != 0xa5 {
					want = api.ErrMark
				}
				got, n, bad := frame.Decode(turned)
				if bad != want || n != 0 || !same(got, api.Frame{}) {
					t.Errorf("%08x at the bit %d: %#v, %d, %d", pattern, at, got, n, bad)
				}
				if at/8 >= 16 && (bad != api.ErrSum) {
					t.Errorf("a body turned at the bit %d: %d", at, bad)
				}
				if got, _, bad := frame.Decode(append(slices.Clone(turned), b...)); bad != want || !same(got, api.Frame{}) {
					t.Errorf("%08x at the bit %d, another frame behind: %#v, %d", pattern, at, got, bad)
				}
			})
		}
	}
}

func TestP11_6ATurnedFrameOfTheGreatest(t *testing.T) {
	r := rand.New(rand.NewSource(15))
	b := encoded(t, api.Frame{Kind: 6, Seq: 12, Body: random(r, api.MaxBody)})
	for range 400 {
		turned := slices.Clone(b)
		flip(turned, r.Uint32()|1, r.Intn(8*len(b)-31))
		if _, _, bad := frame.Decode(turned); bad != api.ErrSum && bad != api.ErrMark {
			t.Fatalf("%d", bad)
		}
	}
}

func TestP11_6EveryBeginningIsTorn(t *testing.T) {
	for _, f := range frames() {
		b := encoded(t, f)
		step := max(len(b)/50, 1)
		for n := 0; n < len(b); n += step {
			if got, size, bad := frame.Decode(b[:n]); bad != api.ErrTorn || size != 0 || !same(got, api.Frame{}) {
				t.Fatalf("the first %d of %d bytes: %#v, %d, %d", n, len(b), got, size, bad)
			}
		}
		for n := len(b) - 5; n < len(b); n++ {
			if _, _, bad := frame.Decode(b[:n]); bad != api.ErrTorn {
				t.Fatalf("the first %d of %d bytes: %d", n, len(b), bad)
			}
			if _, bad := frame.Whole(b[:n], f.Kind); bad != api.ErrTorn {
				t.Fatalf("the first %d of %d bytes as a whole: %d", n, len(b), bad)
			}
		}
	}
}

// roomy is b with bytes behind its end, and all of it to look at later.
func roomy(b []byte) ([]byte, []byte) {
	all := append(slices.Clone(b), bytes.Repeat([]byte{0xee}, 40)...)
	return all[:len(b)], all
}

func TestRule4NothingIsChangedOrShared(t *testing.T) {
	r := rand.New(rand.NewSource(16))
	f := api.Frame{Kind: 5, Seq: 8, Body: random(r, 30)}
	want := written(5, 8, f.Body)

	body, all := roomy(f.Body)
	was := slices.Clone(all)
	first, _ := frame.Encode(api.Frame{Kind: 5, Seq: 8, Body: body})
	second, _ := frame.Encode(api.Frame{Kind: 5, Seq: 8, Body: body})
	if !bytes.Equal(all, was) {
		t.Error("Encode changed the body, or what is behind it")
	}
	clear(body)
	clear(second)
	if !bytes.Equal(first, want) {
		t.Error("Encode's answers share memory")
	}

	b, all := roomy(want)
	was = slices.Clone(all)
	frame.Peek(b)
	one, _, _ := frame.Decode(b)
	two, _ := frame.Whole(b, 5)
	if !bytes.Equal(all, was) {
		t.Error("what was read is changed")
	}
	clear(b)
	if !same(one, f) || !same(two, f) {
		t.Error("what was read is shared")
	}
	_ = append(one.Body, 1, 2, 3)
	clear(one.Body)
	if !same(two, f) || !bytes.Equal(all[len(b):], was[len(b):]) {
		t.Error("the answers share memory")
	}
}

func TestRule1AnyBytes(t *testing.T) {
	r := rand.New(rand.NewSource(17))
	for range 20000 {
		b := random(r, r.Intn(60))
		if len(b) > 0 && r.Intn(2) == 0 {
			b[0] = 0xa5
		}
		if len(b) >= 16 && r.Intn(2) == 0 { // a head whose sum is right
			copy(b, laid(0xa5, byte(r.Intn(9)), uint16(r.Intn(60)), uint64(r.Intn(1000))))
		}
		f, n, bad := frame.Decode(b)
		if bad == api.OK && (n > len(b) || !bytes.Equal(written(byte(f.Kind), uint64(f.Seq), f.Body), b[:n])) {
			t.Fatalf("Decode(%x) = %#v, %d", b, f, n)
		}
		if bad != api.OK && (n != 0 || !same(f, api.Frame{})) {
			t.Fatalf("Decode(%x) = %#v, %d, %d", b, f, n, bad)
		}
		frame.Whole(b, r.Intn(9))
	}
}
