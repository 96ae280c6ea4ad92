package varint_test

import (
	"bytes"
	"encoding/binary"
	"math"
	"math/rand"
	"slices"
	"testing"

	"daybook/api"
	"daybook/varint"
)

// samples is numbers on both sides of each power of two, and others.
func samples() []uint64 {
	us := []uint64{0, 300, math.MaxUint64}
	for i := range 64 {
		us = append(us, 1<<i-1, 1<<i, 1<<i+1)
	}
	r := rand.New(rand.NewSource(1))
	for range 2000 {
		us = append(us, r.Uint64()>>r.Intn(64))
	}
	return us
}

func TestP2_1EncodeExamples(t *testing.T) {
	for _, x := range []struct {
		u uint64
		b []byte
	}{
		{0, []byte{0}},
		{1, []byte{1}},
		{127, []byte{0x7f}},
		{128, []byte{0x80, 1}},
		{300, []byte{0xac, 2}},
		{16383, []byte{0xff, 0x7f}},
		{16384, []byte{0x80, 0x80, 1}},
		{1 << 63, []byte{0x80, 0x80, 0x80, 0x80, 0x80, 0x80, 0x80, 0x80, 0x80, 1}},
		{1<<63 - 1, []byte{0xff, 0xff, 0xff, 0xff, 0xff, 0xff, 0xff, 0xff, 0x7f}},
		{math.MaxUint64, []byte{0xff, 0xff, 0xff, 0xff, 0xff, 0xff, 0xff, 0xff, 0xff, 1}},
	} {
		if b := varint.Encode(x.u); !bytes.Equal(b, x.b) {
			t.Errorf("Encode(%d) = %x, want %x", x.u, b, x.b)
		}
		if n := varint.Size(x.u); n != len(x.b) {
			t.Errorf("Size(%d) = %d, want %d", x.u, n, len(x.b))
		}
	}
}

func TestP2_1EncodeAndSizeOfAll(t *testing.T) {
	for _, u := range samples() {
		want := binary.AppendUvarint(nil, u)
		if b := varint.Encode(u); !bytes.Equal(b, want) || varint.Size(u) != len(want) {
			t.Errorf("Encode(%d) = %x, Size %d, want %x", u, b, varint.Size(u), want)
		}
	}
}

func TestP2_2DecodeTakesWhatEncodeGives(t *testing.T) {
	for _, u := range samples() {
		for _, behind := range [][]byte{nil, {0}, {0x80}, {0xff, 0xff, 0xff}, make([]byte, 20)} {
			b := append(varint.Encode(u), behind...)
			if got, n, e := varint.Decode(b); got != u || n != varint.Size(u) || e != api.OK {
				t.Errorf("Decode(%x) = %d, %d, %d", b, got, n, e)
			}
		}
	}
}

func TestP2_2DecodeRefuses(t *testing.T) {
	run := func(c byte, n int, behind ...byte) []byte { return append(bytes.Repeat([]byte{c}, n), behind...) }
	for _, x := range []struct {
		b []byte
		e api.Errno
	}{
		{nil, api.ErrShort},
		{[]byte{}, api.ErrShort},
		{[]byte{0x80}, api.ErrShort},
		{[]byte{0xff}, api.ErrShort},
		{run(0x80, 9), api.ErrShort},
		{run(0xff, 9), api.ErrShort},
		{[]byte{0x80, 0}, api.ErrLong},
		{[]byte{0xff, 0}, api.ErrLong},
		{[]byte{0xff, 0x80, 0, 1}, api.ErrLong},
		{run(0x80, 9, 0), api.ErrLong},
		{run(0xff, 9, 0), api.ErrLong},
		{run(0x80, 9, 2), api.ErrWide},
		{run(0xff, 9, 0x7f), api.ErrWide},
		{run(0x80, 10), api.ErrWide},
		{run(0x80, 9, 0x81), api.ErrWide},
		{run(0x80, 9, 0x80, 0), api.ErrWide},
		{run(0xff, 20), api.ErrWide},
		{run(0x80, 10, 1), api.ErrWide},
	} {
		if u, n, e := varint.Decode(x.b); u != 0 || n != 0 || e != x.e {
			t.Errorf("Decode(%x) = %d, %d, %d, want %d", x.b, u, n, e, x.e)
		}
	}
}

func TestP2_2EachNumberHasOneEncoding(t *testing.T) {
	check := func(b []byte) {
		u, n, e := varint.Decode(b)
		if e != api.OK {
			if u != 0 || n != 0 {
				t.Errorf("Decode(%x) answers beside an error", b)
			}
			return
		}
		if !bytes.Equal(varint.Encode(u), b[:n]) {
			t.Errorf("Decode(%x) = %d, which Encode gives as %x", b, u, varint.Encode(u))
		}
	}
	for i := range 1 << 16 {
		check([]byte{byte(i), byte(i >> 8)})
	}
	r := rand.New(rand.NewSource(2))
	for range 50000 {
		b := make([]byte, r.Intn(13))
		for i := range b {
			b[i] = []byte{0x80, 0xff, 0x81, 0, 1, 2, byte(r.Intn(256))}[r.Intn(7)]
		}
		check(b)
	}
}

func TestP2_3ZigAndZag(t *testing.T) {
	for _, x := range []struct {
		v int64
		u uint64
	}{
		{0, 0}, {-1, 1}, {1, 2}, {-2, 3}, {2, 4}, {-64, 127}, {64, 128},
		{math.MaxInt64, math.MaxUint64 - 1}, {math.MinInt64, math.MaxUint64}, {math.MinInt64 + 1, math.MaxUint64 - 2},
	} {
		if varint.Zig(x.v) != x.u || varint.Zag(x.u) != x.v {
			t.Errorf("Zig(%d) = %d, Zag(%d) = %d", x.v, varint.Zig(x.v), x.u, varint.Zag(x.u))
		}
	}
	for _, u := range samples() {
		if varint.Zig(varint.Zag(u)) != u || varint.Zag(varint.Zig(int64(u))) != int64(u) {
			t.Errorf("no way back from %d", u)
		}
	}
}

func TestP2_4EncodeAll(t *testing.T) {
	if b := varint.EncodeAll(nil); !bytes.Equal(b, []byte{0}) {
		t.Errorf("EncodeAll of nothing = %x", b)
	}
	if b := varint.EncodeAll([]uint64{5, 128}); !bytes.Equal(b, []byte{2, 5, 0x80, 1}) {
		t.Errorf("EncodeAll(5, 128) = %x", b)
	}
	us := samples()
	kept := slices.Clone(us)
	want := varint.Encode(uint64(len(us)))
	for _, u := range us {
		want = append(want, varint.Encode(u)...)
	}
	if !bytes.Equal(varint.EncodeAll(us), want) {
		t.Error("EncodeAll of many")
	}
	if !slices.Equal(us, kept) {
		t.Error("EncodeAll has changed what was handed in")
	}
}

func TestP2_5DecodeAllTakesWhatEncodeAllGives(t *testing.T) {
	for _, us := range [][]uint64{nil, {0}, {5, 128}, make([]uint64, 200), samples()} {
		b := varint.EncodeAll(us)
		for _, most := range []int{len(us), len(us) + 1, math.MaxInt} {
			got, n, e := varint.DecodeAll(append(slices.Clone(b), 0x80, 7), most)
			if !slices.Equal(got, us) || n != len(b) || e != api.OK {
				t.Errorf("DecodeAll of %d numbers, at most %d: %d numbers, %d, %d", len(us), most, len(got), n, e)
			}
		}
	}
	for _, most := range []int{0, -1, math.MinInt} {
		if got, n, e := varint.DecodeAll([]byte{0, 9}, most); len(got) != 0 || n != 1 || e != api.OK {
			t.Errorf("DecodeAll of none, at most %d: %v, %d, %d", most, got, n, e)
		}
	}
}

func TestP2_5DecodeAllRefuses(t *testing.T) {
	huge := varint.Encode(math.MaxUint64)
	greatest := varint.Encode(math.MaxInt64)
	for _, x := range []struct {
		b    []byte
		most int
		e    api.Errno
	}{
		{nil, 5, api.ErrShort},
		{[]byte{0x80}, 5, api.ErrShort},
		{[]byte{0x80, 0}, 5, api.ErrLong},
		{bytes.Repeat([]byte{0xff}, 12), 5, api.ErrWide},
		{bytes.Repeat([]byte{0xff}, 12), -1, api.ErrWide},
		{[]byte{2, 5, 0x80, 1}, 1, api.ErrBig},
		{[]byte{1, 5}, 0, api.ErrBig},
		{[]byte{1, 5}, -1, api.ErrBig},
		{[]byte{1, 5}, math.MinInt, api.ErrBig},
		{[]byte{2}, 1, api.ErrBig}, // found ahead of the numbers' own faults
		{[]byte{2}, 2, api.ErrShort},
		{[]byte{2, 5}, 2, api.ErrShort},
		{[]byte{2, 5, 0x80}, 2, api.ErrShort},
		{[]byte{2, 5, 0x80, 0}, 2, api.ErrLong},
		{[]byte{2, 0x80, 0, 0x80}, 2, api.ErrLong}, // the first that has one
		{append([]byte{1}, bytes.Repeat([]byte{0x80}, 10)...), 2, api.ErrWide},
		{huge, math.MaxInt, api.ErrBig},
		{greatest, math.MaxInt, api.ErrShort},
		{append(slices.Clone(greatest), 1, 2, 3), math.MaxInt, api.ErrShort},
	} {
		if us, n, e := varint.DecodeAll(x.b, x.most); len(us) != 0 || n != 0 || e != x.e {
			t.Errorf("DecodeAll(%x, %d) = %v, %d, %d, want %d", x.b, x.most, us, n, e, x.e)
		}
	}
}

func TestBytesHandedInStayAsTheyAre(t *testing.T) {
	room := []byte{2, 5, 0x80, 1, 77, 78}
	kept := slices.Clone(room)
	us, _, _ := varint.DecodeAll(room[:4], 2)
	varint.Decode(room[:1])
	us[0] = 9
	if !bytes.Equal(room, kept) {
		t.Errorf("changed to %x", room)
	}
}
