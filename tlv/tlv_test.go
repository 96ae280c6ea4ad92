package tlv_test

import (
	"bytes"
	"encoding/binary"
	"math"
	"math/rand"
	"reflect"
	"slices"
	"testing"

	"daybook/api"
	"daybook/tlv"
)

func number(tag int, v uint64) api.Field { return api.Field{Tag: tag, Num: v} }

func text(tag int, s string) api.Field { return api.Field{Tag: tag, Text: true, Bytes: []byte(s)} }

func long(n int) string { return string(bytes.Repeat([]byte{'x'}, n)) }

// guarded is a copy of b, and that copy with the room behind its end, which no call may touch.
func guarded(b []byte) (inner, outer []byte) {
	outer = append(slices.Clone(b), 0xa5, 0xa5, 0xa5, 0xa5)
	return outer[:len(b)], outer
}

// full is the fields of a record of exactly so many bytes, 968 to 1090: four texts of 200 bytes, one of 150 and one of the rest.
func full(size int) []api.Field {
	fs := []api.Field{text(1, long(200)), text(2, long(200)), text(3, long(200)), text(4, long(200)), text(5, long(150))}
	return append(fs, text(31, long(size-4*203-153-2)))
}

// written is a record by the letter of the chapter.
func written(fs []api.Field) []byte {
	b := []byte{}
	for _, f := range fs {
		if f.Text {
			b = binary.AppendUvarint(b, uint64(2*f.Tag+1))
			b = binary.AppendUvarint(b, uint64(len(f.Bytes)))
			b = append(b, f.Bytes...)
		} else {
			b = binary.AppendUvarint(b, uint64(2*f.Tag))
			b = binary.AppendUvarint(b, f.Num)
		}
	}
	return b
}

// sameFields tells nil and empty Bytes as one.
func sameFields(a, b []api.Field) bool {
	return slices.EqualFunc(a, b, func(x, y api.Field) bool {
		return x.Tag == y.Tag && x.Text == y.Text && x.Num == y.Num && bytes.Equal(x.Bytes, y.Bytes)
	})
}

// rightFields is some fields that Encode takes, with what means nothing left out.
func rightFields(r *rand.Rand) []api.Field {
	var fs []api.Field
	for tag := 1; tag <= api.MaxTag; tag++ {
		switch r.Intn(4) {
		case 0:
			fs = append(fs, number(tag, r.Uint64()>>r.Intn(64)|1))
		case 1:
			b := make([]byte, 1+r.Intn(60)/(1+r.Intn(6)))
			r.Read(b)
			fs = append(fs, api.Field{Tag: tag, Text: true, Bytes: b})
		}
	}
	return fs
}

func TestFullIsFull(t *testing.T) {
	for _, n := range []int{968, 1024, 1025, 1090} {
		if got := len(written(full(n))); got != n {
			t.Errorf("full(%d) has %d bytes", n, got)
		}
	}
}

func TestP5_1EncodeExamples(t *testing.T) {
	for _, x := range []struct {
		name string
		fs   []api.Field
		b    []byte
	}{
		{"none", nil, nil},
		{"no fields", []api.Field{}, nil},
		{"a number and a text", []api.Field{number(1, 5), text(3, "ab")}, []byte{2, 5, 7, 2, 'a', 'b'}},
		{"the last tag", []api.Field{number(31, 1)}, []byte{0x3e, 1}},
		{"a text at the last tag", []api.Field{text(31, "\x00")}, []byte{0x3f, 1, 0}},
		{"a number of two bytes", []api.Field{number(2, 300)}, []byte{4, 0xac, 2}},
		{"the greatest number", []api.Field{number(1, math.MaxUint64)}, []byte{2, 0xff, 0xff, 0xff, 0xff, 0xff, 0xff, 0xff, 0xff, 0xff, 1}},
		{"the longest text", []api.Field{text(1, long(200))}, append([]byte{3, 0xc8, 1}, long(200)...)},
		{"Num of a text", []api.Field{{Tag: 3, Text: true, Num: 9, Bytes: []byte("ab")}}, []byte{7, 2, 'a', 'b'}},
		{"Bytes of a number", []api.Field{{Tag: 3, Num: 9, Bytes: []byte(long(300))}}, []byte{6, 9}},
		{"the longest record", full(1024), written(full(1024))},
	} {
		if b, e := tlv.Encode(x.fs); e != api.OK || !bytes.Equal(b, x.b) {
			t.Errorf("%s: Encode = %x, %d, want %x", x.name, b, e, x.b)
		}
	}
}

func TestP5_1EncodeRefuses(t *testing.T) {
	for _, x := range []struct {
		name string
		fs   []api.Field
		e    api.Errno
	}{
		{"tag 0", []api.Field{number(0, 5)}, api.ErrTag},
		{"tag 32", []api.Field{number(32, 5)}, api.ErrTag},
		{"tag below 0", []api.Field{number(-1, 5)}, api.ErrTag},
		{"the lowest tag", []api.Field{number(math.MinInt, 5)}, api.ErrTag},
		{"the highest tag", []api.Field{text(math.MaxInt, "a")}, api.ErrTag},
		{"the same tag", []api.Field{number(2, 5), text(2, "a")}, api.ErrOrder},
		{"a lower tag", []api.Field{number(2, 5), number(1, 5)}, api.ErrOrder},
		{"number 0", []api.Field{number(2, 0)}, api.ErrZero},
		{"number 0 with bytes", []api.Field{{Tag: 2, Bytes: []byte("a")}}, api.ErrZero},
		{"no bytes", []api.Field{text(2, "")}, api.ErrZero},
		{"nil bytes and a number", []api.Field{{Tag: 2, Text: true, Num: 5}}, api.ErrZero},
		{"201 bytes", []api.Field{text(2, long(201))}, api.ErrText},
		{"tag ahead of order", []api.Field{number(2, 5), number(0, 5)}, api.ErrTag},
		{"tag ahead of zero", []api.Field{number(32, 0)}, api.ErrTag},
		{"tag ahead of text", []api.Field{text(0, long(201))}, api.ErrTag},
		{"order ahead of zero", []api.Field{number(2, 5), number(2, 0)}, api.ErrOrder},
		{"order ahead of text", []api.Field{number(2, 5), text(1, long(201))}, api.ErrOrder},
		{"the first field's", []api.Field{text(1, long(201)), number(0, 0)}, api.ErrText},
		{"the second field's", []api.Field{number(1, 1), number(2, 0), number(2, 1), number(0, 1)}, api.ErrZero},
		{"1025 bytes", full(1025), api.ErrBig},
		{"any other ahead of big", append(full(1090), number(0, 1)), api.ErrTag},
		{"text ahead of big", append(full(1090)[:5:5], text(6, long(200)), text(7, long(201))), api.ErrText},
	} {
		if b, e := tlv.Encode(x.fs); e != x.e || len(b) != 0 {
			t.Errorf("%s: Encode = %x, %d, want %d", x.name, b, e, x.e)
		}
	}
}

func TestP5_1EncodeLeavesItsArgument(t *testing.T) {
	inner, outer := guarded([]byte("ab"))
	fs := append(make([]api.Field, 0, 4), number(1, 5), api.Field{Tag: 3, Text: true, Bytes: inner})
	kept := slices.Clone(outer)
	b, _ := tlv.Encode(fs)
	again, _ := tlv.Encode(fs)
	clear(b[:cap(b)])
	if !bytes.Equal(again, []byte{2, 5, 7, 2, 'a', 'b'}) || !bytes.Equal(outer, kept) {
		t.Errorf("Encode shares memory: %x, %x", again, outer)
	}
	if !reflect.DeepEqual(fs[:4], []api.Field{number(1, 5), text(3, "ab"), {}, {}}) {
		t.Errorf("Encode has changed its fields: %v", fs[:4])
	}
}

// panicked is what f panics with; nil if it does not.
func panicked(f func()) (value any) {
	defer func() { value = recover() }()
	f()
	return nil
}

func TestP5_2Must(t *testing.T) {
	for _, fs := range [][]api.Field{nil, {number(1, 5)}, {number(1, 5), text(3, "ab")}, full(1024)} {
		if b := tlv.Must(fs); !bytes.Equal(b, written(fs)) {
			t.Errorf("Must = %x", b)
		}
	}
	for _, x := range []struct {
		fs []api.Field
		e  api.Errno
	}{
		{[]api.Field{number(0, 5)}, api.ErrTag},
		{[]api.Field{number(2, 5), number(2, 5)}, api.ErrOrder},
		{[]api.Field{number(1, 0)}, api.ErrZero},
		{[]api.Field{text(1, long(201))}, api.ErrText},
		{full(1025), api.ErrBig},
	} {
		if got := panicked(func() { tlv.Must(x.fs) }); got != x.e {
			t.Errorf("Must panics with %v, want the Errno %d", got, x.e)
		}
	}
}

func TestP5_3DecodeExamples(t *testing.T) {
	for _, x := range []struct {
		b  []byte
		fs []api.Field
	}{
		{nil, nil},
		{[]byte{}, nil},
		{[]byte{2, 5, 7, 2, 'a', 'b'}, []api.Field{number(1, 5), text(3, "ab")}},
		{[]byte{0x3e, 1}, []api.Field{number(31, 1)}},
		{[]byte{0x3f, 1, 0}, []api.Field{text(31, "\x00")}},
		{append([]byte{3, 0xc8, 1}, long(200)...), []api.Field{text(1, long(200))}},
		{[]byte{2, 0xff, 0xff, 0xff, 0xff, 0xff, 0xff, 0xff, 0xff, 0xff, 1}, []api.Field{number(1, math.MaxUint64)}},
		{written(full(1024)), full(1024)},
	} {
		if fs, at, e := tlv.Decode(x.b); e != api.OK || at != 0 || !sameFields(fs, x.fs) {
			t.Errorf("Decode(%x) = %v, %d, %d, want %v", x.b, fs, at, e, x.fs)
		}
	}
}

func TestP5_3DecodeRefuses(t *testing.T) {
	run := func(c byte, n int, behind ...byte) []byte { return append(bytes.Repeat([]byte{c}, n), behind...) }
	wrong := []struct {
		name string
		b    []byte // the field, behind others of the tag 3 at most
		e    api.Errno
	}{
		{"head cut", []byte{0x80}, api.ErrShort},
		{"head long", []byte{0x88, 0}, api.ErrLong},
		{"head wide", run(0xff, 10, 1), api.ErrWide},
		{"tag 0", []byte{0, 1}, api.ErrTag},
		{"tag 0, a text", []byte{1, 1, 'a'}, api.ErrTag},
		{"tag 32", []byte{0x40, 1}, api.ErrTag},
		{"tag 32, a text", []byte{0x41, 1, 'a'}, api.ErrTag},
		{"the greatest head", run(0xff, 9, 1), api.ErrTag},
		{"a tag whose lower half is right", append(binary.AppendUvarint(nil, 8+1<<33), 1), api.ErrTag},
		{"tag ahead of the second number", []byte{0}, api.ErrTag},
		{"no second number", []byte{8}, api.ErrShort},
		{"second cut", []byte{8, 0x80}, api.ErrShort},
		{"second long", []byte{8, 0x80, 0}, api.ErrLong},
		{"second wide", run(8, 1, run(0x80, 9, 2)...), api.ErrWide},
		{"number 0", []byte{8, 0}, api.ErrZero},
		{"text of 0", []byte{9, 0}, api.ErrZero},
		{"text of 201", append([]byte{9, 0xc9, 1}, long(201)...), api.ErrText},
		{"text ahead of short", []byte{9, 0xc9, 1}, api.ErrText},
		{"a text of the greatest size", run(9, 1, run(0xff, 9, 1)...), api.ErrText},
		{"a text of 2^63", run(9, 1, run(0x80, 9, 1)...), api.ErrText},
		{"text cut", []byte{9, 5, 'a'}, api.ErrShort},
		{"text without bytes", []byte{9, 1}, api.ErrShort},
		{"text of 200 cut by one", append([]byte{9, 0xc8, 1}, long(199)...), api.ErrShort},
	}
	for _, ahead := range [][]byte{nil, {2, 5}, {2, 5, 7, 2, 'a', 'b'}} {
		for _, x := range wrong {
			b := append(slices.Clone(ahead), x.b...)
			if fs, at, e := tlv.Decode(b); e != x.e || at != len(ahead) || len(fs) != 0 {
				t.Errorf("%s: Decode(%x) = %v, %d, %d, want %d at %d", x.name, b, fs, at, e, x.e, len(ahead))
			}
		}
	}
}

func TestP5_3DecodeRefusesOrderAndSize(t *testing.T) {
	for _, x := range []struct {
		name string
		b    []byte
		at   int
		e    api.Errno
	}{
		{"the same tag", []byte{2, 5, 2, 5}, 2, api.ErrOrder},
		{"the same tag, a text", []byte{2, 5, 3, 1, 'a'}, 2, api.ErrOrder},
		{"a lower tag", []byte{7, 2, 'a', 'b', 2, 5}, 4, api.ErrOrder},
		{"tag ahead of order", []byte{2, 5, 0, 1}, 2, api.ErrTag},
		{"order ahead of the second number", []byte{2, 5, 2}, 2, api.ErrOrder},
		{"order ahead of zero", []byte{2, 5, 2, 0}, 2, api.ErrOrder},
		{"order ahead of text", []byte{2, 5, 3, 0xc9, 1}, 2, api.ErrOrder},
		{"the first of two", []byte{2, 0, 0, 0}, 0, api.ErrZero},
		{"the third", []byte{2, 5, 4, 5, 4, 5, 0}, 4, api.ErrOrder},
		{"1025 bytes", written(full(1025)), 0, api.ErrBig},
		{"1025 wrong bytes", bytes.Repeat([]byte{0xff}, 1025), 0, api.ErrBig},
		{"1025 noughts", make([]byte, 1025), 0, api.ErrBig},
		{"1024 noughts", make([]byte, 1024), 0, api.ErrTag},
		{"a million bytes", make([]byte, 1<<20), 0, api.ErrBig},
		{"1024 bytes, the last field cut", written(full(1025))[:1024], 4*203 + 153, api.ErrShort},
	} {
		if fs, at, e := tlv.Decode(x.b); e != x.e || at != x.at || len(fs) != 0 {
			t.Errorf("%s: Decode = %v, %d, %d, want %d at %d", x.name, fs, at, e, x.e, x.at)
		}
	}
}

func TestP5_3DecodeGivesNewMemory(t *testing.T) {
	inner, outer := guarded([]byte{3, 2, 'a', 'b', 5, 2, 'c', 'd'})
	kept := slices.Clone(outer)
	fs, _, _ := tlv.Decode(inner)
	for i := range fs {
		own := fs[i].Bytes[:cap(fs[i].Bytes)]
		for j := range own {
			own[j] = 'z'
		}
		if i == 0 && string(fs[1].Bytes) != "cd" {
			t.Error("two texts of one record share memory")
		}
	}
	if !bytes.Equal(outer, kept) {
		t.Errorf("Decode shares its argument: %x", outer)
	}
	fs, _, _ = tlv.Decode(inner)
	clear(outer)
	if !sameFields(fs, []api.Field{text(1, "ab"), text(2, "cd")}) {
		t.Errorf("Decode keeps its argument: %v", fs)
	}
}

// read is Decode by the letter of the chapter.
func read(b []byte) (fs []api.Field, at int, e api.Errno) {
	if len(b) > 1024 {
		return nil, 0, api.ErrBig
	}
	ahead := uint64(0)
	for at < len(b) {
		head, n, e := uvarint(b[at:])
		tag := head / 2
		switch {
		case e != api.OK:
			return nil, at, e
		case tag == 0 || tag > 31:
			return nil, at, api.ErrTag
		case tag <= ahead:
			return nil, at, api.ErrOrder
		}
		second, m, e := uvarint(b[at+n:])
		left := b[at+n+m:]
		switch {
		case e != api.OK:
			return nil, at, e
		case second == 0:
			return nil, at, api.ErrZero
		case head%2 == 0:
			fs = append(fs, number(int(tag), second))
			at += n + m
		case second > 200:
			return nil, at, api.ErrText
		case second > uint64(len(left)):
			return nil, at, api.ErrShort
		default:
			fs = append(fs, text(int(tag), string(left[:second])))
			at += n + m + int(second)
		}
		ahead = tag
	}
	return fs, 0, api.OK
}

// uvarint reads a number with the library's means.
func uvarint(b []byte) (uint64, int, api.Errno) {
	u, n := binary.Uvarint(b)
	switch {
	case n < 0 || n == 0 && len(b) >= 10:
		return 0, 0, api.ErrWide
	case n == 0:
		return 0, 0, api.ErrShort
	case n > 1 && b[n-1] == 0:
		return 0, 0, api.ErrLong
	}
	return u, n, api.OK
}

// holdTogether fails the test where Decode of b is not as the chapter has it, or Encode does not write it again.
func holdTogether(t *testing.T, b []byte) {
	t.Helper()
	fs, at, e := tlv.Decode(b)
	if want, place, errno := read(b); !sameFields(fs, want) || at != place || e != errno {
		t.Fatalf("Decode(%x) = %v, %d, %d, want %v, %d, %d", b, fs, at, e, want, place, errno)
	}
	if e != api.OK {
		return
	}
	if again, e := tlv.Encode(fs); e != api.OK || !bytes.Equal(again, b) {
		t.Fatalf("Decode takes %x, Encode writes %x, %d", b, again, e)
	}
}

func TestP5_4WhatDecodeTakesEncodeWrites(t *testing.T) {
	for i := range 1 << 16 {
		holdTogether(t, []byte{byte(i), byte(i >> 8)})
		holdTogether(t, []byte{2, 1, byte(i), byte(i >> 8), 'a'})
	}
	r := rand.New(rand.NewSource(7))
	for range 20000 {
		b := make([]byte, r.Intn(12))
		for i := range b {
			b[i] = byte(r.Intn(256) >> r.Intn(8))
		}
		holdTogether(t, b)
		b = written(rightFields(r))
		if len(b) > 0 {
			b[r.Intn(len(b))] ^= 1 << r.Intn(8)
			holdTogether(t, b)
			holdTogether(t, b[:r.Intn(len(b))])
		}
	}
}

func TestP5_4WhatEncodeWritesDecodeTakes(t *testing.T) {
	r := rand.New(rand.NewSource(8))
	for range 5000 {
		fs := rightFields(r)
		given := slices.Clone(fs)
		for i := range given { // what means nothing must not count
			if given[i].Text {
				given[i].Num = r.Uint64()
			} else {
				given[i].Bytes = make([]byte, r.Intn(300))
			}
		}
		b, e := tlv.Encode(given)
		if want := written(fs); e != api.OK && (e != api.ErrBig || len(want) <= 1024) || e == api.OK && !bytes.Equal(b, want) {
			t.Fatalf("Encode(%v) = %x, %d", given, b, e)
		}
		if e != api.OK {
			continue
		}
		if back, at, e := tlv.Decode(b); e != api.OK || at != 0 || !sameFields(back, fs) {
			t.Fatalf("Encode(%v) = %x, Decode %v, %d, %d", given, b, back, at, e)
		}
	}
}
