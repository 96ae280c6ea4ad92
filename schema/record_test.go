package schema_test

import (
	"bytes"
	"encoding/binary"
	"math"
	"math/rand"
	"slices"
	"strings"
	"testing"

	"daybook/api"
	"daybook/schema"
	"daybook/tlv"
)

// number is a field of a record that holds a number, by the letter of layer 5; nothing of a 0.
func number(tag int, u uint64) []byte {
	if u == 0 {
		return nil
	}
	return binary.AppendUvarint([]byte{byte(2 * tag)}, u)
}

// text is a field of a record that holds a text.
func text(tag int, s string) []byte {
	if s == "" {
		return nil
	}
	return append(binary.AppendUvarint([]byte{byte(2*tag + 1)}, uint64(len(s))), s...)
}

func join(fields ...[]byte) []byte { return bytes.Join(fields, nil) }

// written is the record of an event by the letter of the chapter.
func written(v int, e api.Event) []byte {
	qty := uint64(e.Qty)
	if v <= 2 {
		qty = 2 * uint64(e.Qty)
		if e.Qty < 0 {
			qty = 2*uint64(-e.Qty) - 1
		}
	}
	return join(number(1, uint64(e.Kind)), number(2, uint64(e.Order)), number(3, uint64(e.Item)), number(4, qty), number(5, uint64(e.Price)),
		number(6, uint64(e.Cur)), number(7, uint64(e.Tax)), text(8, e.Who), number(9, uint64(e.Stamp)), text(10, e.Note))
}

// read is Decode by the letter of the chapter, over the fields as layer 5 gives them.
func read(v int, b []byte) (api.Event, api.Errno) {
	if v < 1 || v > 5 {
		return api.Event{}, api.ErrVersion
	}
	fs, _, bad := tlv.Decode(b)
	if bad != api.OK {
		return api.Event{}, bad
	}
	last := []int{5, 6, 7, 8, 10}[v-1]
	for _, f := range fs {
		if f.Tag <= last && f.Text != (f.Tag == 8 || f.Tag == 10) {
			return api.Event{}, api.ErrForm
		}
	}
	var e api.Event
	ints := map[int]*int{2: &e.Order, 3: &e.Item, 4: &e.Qty, 5: &e.Price, 6: &e.Cur, 7: &e.Tax, 9: &e.Stamp}
	for _, f := range fs {
		n := int(min(f.Num, 1<<62))
		switch {
		case f.Tag > last:
			return api.Event{}, api.ErrTag
		case f.Tag == 1:
			e.Kind = api.Kind(n)
		case f.Tag == 8:
			e.Who = string(f.Bytes)
		case f.Tag == 10:
			e.Note = string(f.Bytes)
		case f.Tag == 4 && v <= 2:
			e.Qty = n / 2
			if n%2 == 1 {
				e.Qty = -n/2 - 1
			}
		default:
			*ints[f.Tag] = n
		}
	}
	if bad := judged(v, e); bad != api.OK {
		return api.Event{}, bad
	}
	return e, api.OK
}

func TestP6_2Encode(t *testing.T) {
	for _, x := range []struct {
		name string
		v    int
		e    api.Event
		b    []byte
	}{
		{"the least", 1, api.Event{Kind: api.Place, Order: 1}, []byte{2, 1, 4, 1}},
		{"with a sign", 1, add, []byte{2, 2, 4, 7, 6, 3, 8, 3, 10, 5}},
		{"with a sign above 0", 2, with(add, func(e *api.Event) { e.Qty = 2 }), []byte{2, 2, 4, 7, 6, 3, 8, 4, 10, 5}},
		{"without a sign", 3, with(add, func(e *api.Event) { e.Qty = 2 }), []byte{2, 2, 4, 7, 6, 3, 8, 2, 10, 5}},
		{"a currency", 2, api.Event{Kind: api.Pay, Order: 1, Cur: 3}, []byte{2, 3, 4, 1, 12, 3}},
		{"a tax", 3, api.Event{Kind: api.Drop, Order: 1, Tax: 127}, []byte{2, 6, 4, 1, 14, 127}},
		{"who", 4, api.Event{Kind: api.Hold, Order: 1, Who: "ab"}, []byte{2, 8, 4, 1, 17, 2, 'a', 'b'}},
		{"all", 5, wholly, []byte{2, 10, 4, 2, 6, 3, 8, 4, 10, 5, 12, 1, 14, 7, 17, 5, 'a', 'n', 'n', '-', '8', 18, 9, 21, 4, 0, 0xff, ' ', 'n'}},
	} {
		if b, bad := schema.Encode(x.v, x.e); bad != api.OK || !bytes.Equal(b, x.b) {
			t.Errorf("%s: Encode = %x, %d, want %x", x.name, b, bad, x.b)
		}
	}
}

func TestP6_2EncodeIsChecksError(t *testing.T) {
	r := rand.New(rand.NewSource(63))
	for from := 1; from <= 5; from++ {
		for _, e := range edges(right(r, from)) {
			for _, v := range versions {
				want := judged(v, e)
				b, bad := schema.Encode(v, e)
				p, also := schema.Pack(v, e)
				if bad != want || also != want || bad != api.OK && (len(b) > 0 || len(p) > 0) {
					t.Fatalf("version %d, %#v: Encode = %x, %d, Pack = %x, %d, want %d", v, e, b, bad, p, also, want)
				}
			}
		}
	}
}

func TestP6_2EncodeByTheLetter(t *testing.T) {
	r := rand.New(rand.NewSource(64))
	for v := 1; v <= 5; v++ {
		for range 1000 {
			e := right(r, v)
			if b, bad := schema.Encode(v, e); bad != api.OK || !bytes.Equal(b, written(v, e)) {
				t.Fatalf("Encode(%d, %#v) = %x, %d", v, e, b, bad)
			}
		}
	}
}

func TestP6_3Decode(t *testing.T) {
	begin := []byte{2, 1, 4, 7} // Place of order 7
	place := api.Event{Kind: api.Place, Order: 7}
	with17 := text(8, strings.Repeat("a", 17))
	for _, x := range []struct {
		name string
		v    int
		b    []byte
		e    api.Event
		bad  api.Errno
	}{
		{"the least", 5, begin, place, api.OK},
		{"a tag of version 2", 1, []byte{2, 2, 4, 7, 12, 1}, api.Event{}, api.ErrTag},
		{"a tag of version 3", 2, join(begin, number(7, 1)), api.Event{}, api.ErrTag},
		{"a tag of version 4", 3, join(begin, text(8, "a")), api.Event{}, api.ErrTag},
		{"a number at a tag of version 4", 3, join(begin, number(8, 1)), api.Event{}, api.ErrTag},
		{"a tag of version 5", 4, join(begin, number(9, 1)), api.Event{}, api.ErrTag},
		{"a tag of none", 5, join(begin, number(11, 1)), api.Event{}, api.ErrTag},
		{"a number as Who", 4, []byte{2, 1, 4, 7, 16, 1}, api.Event{}, api.ErrForm},
		{"a number as Note", 5, join(begin, number(10, 1)), api.Event{}, api.ErrForm},
		{"a text as Kind", 1, join(text(1, "a"), begin[2:]), api.Event{}, api.ErrForm},
		{"a text as Qty with a sign", 1, join(begin, text(4, "a")), api.Event{}, api.ErrForm},
		{"a text as Qty", 3, join(begin, text(4, "a")), api.Event{}, api.ErrForm},
		{"a text as Cur", 2, join(begin, text(6, "a")), api.Event{}, api.ErrForm},
		{"a text as Stamp", 5, join(begin, text(9, "a")), api.Event{}, api.ErrForm},
		{"form ahead of tag", 4, join(begin, number(8, 1), number(9, 1)), api.Event{}, api.ErrForm},
		{"tag ahead of kind", 1, join(number(1, 9), number(9, 1)), api.Event{}, api.ErrTag},
		{"form ahead of kind", 1, join(number(1, 9), text(2, "a")), api.Event{}, api.ErrForm},
		{"version ahead of all", 6, []byte{0x80}, api.Event{}, api.ErrVersion},
		{"version 0 ahead of all", 0, []byte{0x80}, api.Event{}, api.ErrVersion},
		{"too big a record", 5, make([]byte, 1025), api.Event{}, api.ErrBig},
		{"a record's own error ahead of form", 4, join(begin, number(8, 1), []byte{2, 1}), api.Event{}, api.ErrOrder},
		{"a number that ends early", 5, []byte{2, 1, 4}, api.Event{}, api.ErrShort},
		{"a number that is nought", 5, []byte{2, 1, 4, 0}, api.Event{}, api.ErrZero},
		{"a text that is too long", 5, join(begin, text(10, strings.Repeat("a", 201))), api.Event{}, api.ErrText},
		{"nothing", 5, nil, api.Event{}, api.ErrKind},
		{"no order", 5, []byte{2, 1}, api.Event{}, api.ErrField},
		{"a kind of a later version", 2, []byte{2, 6, 4, 7}, api.Event{}, api.ErrKind},
		{"a long Who", 4, join(begin, with17), api.Event{}, api.ErrBig},
		{"a long Who of a version without one", 3, join(begin, with17), api.Event{}, api.ErrTag},
		{"a long Note", 5, join(begin, text(10, strings.Repeat("a", 121))), api.Event{}, api.ErrBig},
		{"Who of a letter that is none", 4, join(begin, text(8, "A")), api.Event{}, api.ErrField},
		{"-2 with a sign", 2, join(begin, number(4, 3)), with(place, func(e *api.Event) { e.Qty = -2 }), api.OK},
		{"the same without one", 3, join(begin, number(4, 3)), with(place, func(e *api.Event) { e.Qty = 3 }), api.OK},
		{"the least quantity", 1, join(begin, number(4, 19999)), with(place, func(e *api.Event) { e.Qty = -10000 }), api.OK},
		{"one less", 1, join(begin, number(4, 20001)), api.Event{}, api.ErrField},
	} {
		if e, bad := schema.Decode(x.v, x.b); e != x.e || bad != x.bad {
			t.Errorf("%s: Decode = %#v, %d, want %#v, %d", x.name, e, bad, x.e, x.bad)
		}
	}
}

// A number that fits no int is out of its field's bounds, and isn't what its lower bits are.
func TestP6_3GreatNumbers(t *testing.T) {
	for _, u := range []uint64{1 << 62, 1<<62 + 1, 1<<63 - 1, 1 << 63, 1<<63 + 1, math.MaxUint64 - 1, math.MaxUint64} {
		for v := 1; v <= 5; v++ {
			if e, bad := schema.Decode(v, join(number(1, u), number(2, 7))); e != (api.Event{}) || bad != api.ErrKind {
				t.Errorf("version %d, kind %d: %#v, %d", v, u, e, bad)
			}
			for tag := 2; tag <= 9; tag++ {
				if tag == 8 || tag >= 6 && tag > v+4 {
					continue
				}
				b := join(number(1, 1), number(2, 7), number(tag, u))
				if tag == 2 {
					b = join(number(1, 1), number(2, u))
				}
				if e, bad := schema.Decode(v, b); e != (api.Event{}) || bad != api.ErrField {
					t.Errorf("version %d, tag %d, %d: %#v, %d", v, tag, u, e, bad)
				}
			}
		}
	}
}

// wrong is some bytes that are near to a record of an event, and seldom one.
func wrong(r *rand.Rand) []byte {
	var b []byte
	for tag := 1; tag <= 11; tag++ {
		switch r.Intn(30) {
		case 0:
			b = append(b, text(tag, strings.Repeat("a", r.Intn(20)))...)
		case 1:
			b = append(b, number(tag, r.Uint64()>>r.Intn(64))...)
		case 2, 3, 4, 5, 6, 7:
		default:
			if tag == 8 || tag == 10 {
				b = append(b, text(tag, strings.Repeat("a", r.Intn(4)))...)
			} else if tag < 11 {
				b = append(b, number(tag, uint64(r.Intn(5)))...)
			}
		}
	}
	if len(b) > 0 && r.Intn(4) == 0 {
		b[r.Intn(len(b))] ^= byte(1 << r.Intn(8))
	}
	return b[:len(b)-min(len(b), r.Intn(8)/7)]
}

func TestP6_3And6_4DecodeByTheLetter(t *testing.T) {
	r := rand.New(rand.NewSource(65))
	seen := map[api.Errno]int{}
	for range 60000 {
		v, b := 1+r.Intn(5), wrong(r)
		want, bad := read(v, b)
		e, got := schema.Decode(v, b)
		if e != want || got != bad {
			t.Fatalf("Decode(%d, %x) = %#v, %d, want %#v, %d", v, b, e, got, want, bad)
		}
		seen[got]++
		if got != api.OK {
			continue
		}
		if again, bad := schema.Encode(v, e); bad != api.OK || !bytes.Equal(again, b) {
			t.Fatalf("Encode(%d, %#v) = %x, %d, was %x", v, e, again, bad, b)
		}
	}
	for _, e := range []api.Errno{api.OK, api.ErrShort, api.ErrTag, api.ErrOrder, api.ErrZero, api.ErrKind, api.ErrField, api.ErrForm, api.ErrBig} {
		if seen[e] < 10 {
			t.Errorf("only %d of the records answered %d", seen[e], e)
		}
	}
}

func TestP6_4DecodeGivesBack(t *testing.T) {
	r := rand.New(rand.NewSource(66))
	for v := 1; v <= 5; v++ {
		for range 1000 {
			e := right(r, v)
			b, _ := schema.Encode(v, e)
			if got, bad := schema.Decode(v, b); got != e || bad != api.OK {
				t.Fatalf("Decode(%d, %x) = %#v, %d, want %#v", v, b, got, bad, e)
			}
			packed, _ := schema.Pack(v, e)
			if got, back, bad := schema.Unpack(packed); got != v || back != e || bad != api.OK {
				t.Fatalf("Unpack(%x) = %d, %#v, %d, want %d, %#v", packed, got, back, bad, v, e)
			}
		}
	}
}

func TestP6_5Pack(t *testing.T) {
	if b, bad := schema.Pack(1, add); bad != api.OK || !bytes.Equal(b, []byte{1, 2, 2, 4, 7, 6, 3, 8, 3, 10, 5}) {
		t.Errorf("Pack = %x, %d", b, bad)
	}
	if b, bad := schema.Pack(5, api.Event{Kind: api.Place, Order: 7}); bad != api.OK || !bytes.Equal(b, []byte{5, 2, 1, 4, 7}) {
		t.Errorf("Pack = %x, %d", b, bad)
	}
	if b, bad := schema.Pack(3, add); bad != api.ErrField || len(b) > 0 {
		t.Errorf("Pack = %x, %d", b, bad)
	}
}

func TestP6_5Unpack(t *testing.T) {
	great := func(u uint64) []byte { return append(binary.AppendUvarint(nil, u), 2, 1, 4, 7) }
	for _, x := range []struct {
		name string
		b    []byte
		v    int
		e    api.Event
		bad  api.Errno
	}{
		{"the example", []byte{1, 2, 2, 4, 7, 6, 3, 8, 3, 10, 5}, 1, add, api.OK},
		{"version 5", []byte{5, 2, 1, 4, 7}, 5, api.Event{Kind: api.Place, Order: 7}, api.OK},
		{"version 6", []byte{6, 2, 2}, 0, api.Event{}, api.ErrVersion},
		{"version 6 ahead of the record", []byte{6, 0x80}, 0, api.Event{}, api.ErrVersion},
		{"version 0", []byte{0, 2, 1, 4, 7}, 0, api.Event{}, api.ErrVersion},
		{"nothing", nil, 0, api.Event{}, api.ErrShort},
		{"an overlong version", []byte{0x81, 0, 2, 1, 4, 7}, 0, api.Event{}, api.ErrLong},
		{"a version that ends early", []byte{0x81}, 0, api.Event{}, api.ErrShort},
		{"too wide a version", bytes.Repeat([]byte{0x81}, 12), 0, api.Event{}, api.ErrWide},
		{"version 2^62", great(1 << 62), 0, api.Event{}, api.ErrVersion},
		{"version 2^63 + 1", great(1<<63 + 1), 0, api.Event{}, api.ErrVersion},
		{"version 2^32 + 1", great(1<<32 + 1), 0, api.Event{}, api.ErrVersion},
		{"the greatest version", great(math.MaxUint64), 0, api.Event{}, api.ErrVersion},
		{"a version alone", []byte{5}, 0, api.Event{}, api.ErrKind},
		{"a bad record", []byte{5, 2}, 0, api.Event{}, api.ErrShort},
		{"too big a record", append([]byte{5}, make([]byte, 1025)...), 0, api.Event{}, api.ErrBig},
		{"a bad event", []byte{5, 2, 1}, 0, api.Event{}, api.ErrField},
	} {
		if v, e, bad := schema.Unpack(x.b); v != x.v || e != x.e || bad != x.bad {
			t.Errorf("%s: Unpack = %d, %#v, %d, want %d, %#v, %d", x.name, v, e, bad, x.v, x.e, x.bad)
		}
	}
}

func TestP6_5UnpackIsDecodeBehindAVersion(t *testing.T) {
	r := rand.New(rand.NewSource(67))
	for range 5000 {
		u, b := r.Intn(8), wrong(r)
		want, bad := read(u, b)
		version := u
		if bad != api.OK {
			version = 0
		}
		v, e, got := schema.Unpack(append([]byte{byte(u)}, b...))
		if v != version || e != want || got != bad {
			t.Fatalf("Unpack(%d, %x) = %d, %#v, %d, want %#v, %d", u, b, v, e, got, want, bad)
		}
	}
}

func TestBytesHandedInStayAsTheyAre(t *testing.T) {
	packed, _ := schema.Pack(5, wholly)
	outer := append(slices.Clone(packed), 0xa5, 0xa5, 0xa5)
	kept := slices.Clone(outer)
	_, e, _ := schema.Unpack(outer[:len(packed)])
	if !bytes.Equal(outer, kept) {
		t.Errorf("changed to %x", outer)
	}
	clear(outer)
	if e != wholly {
		t.Errorf("the event hangs on the bytes: %#v", e)
	}
}

func TestAnswersAreNewMemory(t *testing.T) {
	for _, encode := range []func(int, api.Event) ([]byte, api.Errno){schema.Encode, schema.Pack} {
		first, _ := encode(5, wholly)
		kept := slices.Clone(first)
		clear(first[:cap(first)])
		if second, _ := encode(5, wholly); !bytes.Equal(second, kept) {
			t.Errorf("%x behind a change of the first answer, was %x", second, kept)
		}
	}
}
