package canon_test

import (
	"bytes"
	"encoding/binary"
	"math"
	"math/rand"
	"slices"
	"strings"
	"testing"

	"daybook/api"
	"daybook/canon"
	"daybook/order"
	"daybook/tlv"
)

// begun is the state of layer 8's first example, and its record that of the chapter's.
func begun() api.State {
	return api.State{Order: 7, Status: api.Open, Tax: 1000, Events: 3, Lines: []api.Line{{Item: 1, Price: 99, Qty: 1}, {Item: 3, Price: 500, Qty: 2}}}
}

var begunRecord = []byte{0x02, 0x07, 0x04, 0x01, 0x0a, 0xe8, 0x07, 0x10, 0x03,
	0x19, 0x04, 0x01, 0x63, 0x01, 0x00, 0x1b, 0x05, 0x03, 0xf4, 0x03, 0x02, 0x00}

// wholly is a state with something in each field.
var wholly = api.State{Order: 9, Status: api.Held, Prior: api.Paid, Cur: 3, Tax: 5000, Paid: 15, Refunded: 5, Events: 300, Refused: 6, Stamp: 7, Who: "ann-8",
	Lines: []api.Line{{Item: 4, Price: 2, Qty: 5, Shipped: 3}}}

var whollyRecord = []byte{2, 9, 4, 2, 6, 3, 8, 3, 10, 0x88, 0x27, 12, 15, 14, 5, 16, 0xac, 2, 18, 6, 20, 7, 23, 5, 'a', 'n', 'n', '-', '8', 25, 4, 4, 2, 5, 3}

// greatest is the state with the longest record.
func greatest() api.State {
	s := api.State{Order: 1 << 40, Status: api.Held, Prior: api.Paid, Cur: 3, Tax: 5000, Events: 1 << 40, Refused: 1 << 40, Stamp: 1 << 40, Who: strings.Repeat("z", 16)}
	for i := range 16 {
		s.Lines = append(s.Lines, api.Line{Item: 65520 + i, Price: 100000000, Qty: 100000, Shipped: 99999})
	}
	s.Paid, s.Refunded = 240000000000000, 240000000000000
	return s
}

// number is a field of a record that holds a number, by the letter of layer 5; nothing of a 0.
func number(tag int, n int) []byte {
	if n == 0 {
		return nil
	}
	return binary.AppendUvarint([]byte{byte(2 * tag)}, uint64(n))
}

// text is a field of a record that holds a text.
func text(tag int, b []byte) []byte {
	if len(b) == 0 {
		return nil
	}
	return append(binary.AppendUvarint([]byte{byte(2*tag + 1)}, uint64(len(b))), b...)
}

// numbers is numbers one behind the other.
func numbers(ns ...uint64) []byte {
	var b []byte
	for _, n := range ns {
		b = binary.AppendUvarint(b, n)
	}
	return b
}

func join(fields ...[]byte) []byte { return bytes.Join(fields, nil) }

// written is the record of a state by the letter of the chapter.
func written(s api.State) []byte {
	var b []byte
	for i, n := range []int{s.Order, int(s.Status), int(s.Prior), s.Cur, s.Tax, s.Paid, s.Refunded, s.Events, s.Refused, s.Stamp} {
		b = append(b, number(i+1, n)...)
	}
	b = append(b, text(11, []byte(s.Who))...)
	for i, l := range s.Lines {
		b = append(b, text(12+i, numbers(uint64(l.Item), uint64(l.Price), uint64(l.Qty), uint64(l.Shipped)))...)
	}
	return b
}

// read is Decode by the letter of the chapter, over the fields as layer 5 gives them.
func read(b []byte) (api.State, api.Errno) {
	fields, _, bad := tlv.Decode(b)
	if bad != api.OK {
		return api.State{}, bad
	}
	byTag := map[int]api.Field{}
	for _, f := range fields {
		byTag[f.Tag] = f
	}
	gap := 12 // the first of the lines' tags that is missing
	for ; gap <= 27; gap++ {
		if _, there := byTag[gap]; !there {
			break
		}
	}
	for _, f := range fields {
		if f.Tag <= 10 && f.Text || f.Tag >= 11 && f.Tag < max(gap, 12) && !f.Text {
			return api.State{}, api.ErrForm
		}
	}
	for _, f := range fields {
		if f.Tag >= gap {
			return api.State{}, api.ErrTag
		}
	}
	whole := func(u uint64) int { return int(min(u, 1<<62)) }
	at := func(tag int) int { return whole(byTag[tag].Num) }
	s := api.State{Order: at(1), Status: api.Status(at(2)), Prior: api.Status(at(3)), Cur: at(4), Tax: at(5), Paid: at(6), Refunded: at(7),
		Events: at(8), Refused: at(9), Stamp: at(10), Who: string(byTag[11].Bytes)}
	for tag := 12; tag < gap; tag++ {
		rest, ns := byTag[tag].Bytes, [4]int{}
		for i := range ns {
			u, size := binary.Uvarint(rest)
			if size <= 0 || !bytes.Equal(binary.AppendUvarint(nil, u), rest[:size]) {
				return api.State{}, api.ErrState
			}
			ns[i], rest = whole(u), rest[size:]
		}
		if len(rest) > 0 {
			return api.State{}, api.ErrState
		}
		s.Lines = append(s.Lines, api.Line{Item: ns[0], Price: ns[1], Qty: ns[2], Shipped: ns[3]})
	}
	if !order.Valid(s) {
		return api.State{}, api.ErrState
	}
	return s, api.OK
}

// same tells whether two states are one; a list of no lines may be nil or empty.
func same(a, b api.State) bool {
	return slices.Equal(a.Lines, b.Lines) && bytes.Equal(written(a), written(b))
}

// some is a valid state.
func some(r *rand.Rand) api.State {
	pick := func(least, most int) int {
		switch r.Intn(4) {
		case 0:
			return least
		case 1:
			return most
		}
		return least + r.Intn(most-least+1)
	}
	for {
		s := api.State{Order: pick(1, 1<<40), Status: api.Status(r.Intn(6)), Cur: pick(0, 3), Tax: pick(0, 5000), Events: pick(0, 1<<40), Stamp: pick(0, 1<<40)}
		s.Who = []string{"", "a", "old", strings.Repeat("-", 16)}[r.Intn(4)]
		s.Refused = pick(0, s.Events)
		if s.Status == api.Held {
			s.Prior = []api.Status{api.Open, api.Paid}[r.Intn(2)]
		}
		item := 0
		for range pick(0, 16) {
			l := api.Line{Item: item + pick(0, 4000), Price: pick(0, 100000000), Qty: pick(1, 100000)}
			if s.Status == api.Sent {
				l.Shipped = l.Qty
			} else if s.Status == api.Paid || s.Prior == api.Paid {
				l.Shipped = pick(0, l.Qty)
			}
			s.Lines, item = append(s.Lines, l), l.Item+1
			s.Paid += l.Price * l.Qty
		}
		s.Paid += s.Paid * s.Tax / 10000
		if s.Status <= api.Open || s.Prior == api.Open || s.Status == api.Cancelled {
			s.Paid = pick(0, s.Paid)
		}
		s.Refunded = pick(0, s.Paid) * r.Intn(2)
		if s.Status == api.None {
			s = api.State{Order: s.Order, Events: s.Events, Refused: s.Events}
		}
		if order.Valid(s) {
			return s
		}
	}
}

func TestP9_1Encode(t *testing.T) {
	for _, x := range []struct {
		name string
		s    api.State
		b    []byte
	}{
		{"the least", order.Empty(7), []byte{2, 7}},
		{"layer 8's example", begun(), begunRecord},
		{"all fields", wholly, whollyRecord},
		{"an item 0 of price 0", api.State{Order: 1, Status: api.Open, Lines: []api.Line{{Qty: 1}}}, []byte{2, 1, 4, 1, 25, 4, 0, 0, 1, 0}},
		{"refused events alone", api.State{Order: 1, Events: 2, Refused: 2}, []byte{2, 1, 16, 2, 18, 2}},
	} {
		if b, bad := canon.Encode(x.s); bad != api.OK || !bytes.Equal(b, x.b) {
			t.Errorf("%s: Encode = %x, %d, want %x", x.name, b, bad, x.b)
		}
	}
}

func TestP9_1TheGreatestState(t *testing.T) {
	s := greatest()
	b, bad := canon.Encode(s)
	if bad != api.OK || !bytes.Equal(b, written(s)) {
		t.Fatalf("Encode = %x, %d", b, bad)
	}
	if got, bad := canon.Decode(b); bad != api.OK || !same(got, s) {
		t.Errorf("Decode = %#v, %d", got, bad)
	}
	if n := canon.Size(s); n != len(b) {
		t.Errorf("Size = %d, want %d", n, len(b))
	}
}

func TestP9_1NoValidState(t *testing.T) {
	for _, change := range []func(s *api.State){
		func(s *api.State) { *s = api.State{} },
		func(s *api.State) { s.Order = 0 },
		func(s *api.State) { s.Order = 1<<40 + 1 },
		func(s *api.State) { s.Status = api.Paid },
		func(s *api.State) { s.Prior = api.Open },
		func(s *api.State) { s.Cur = -1 },
		func(s *api.State) { s.Tax = 5001 },
		func(s *api.State) { s.Paid = -1 },
		func(s *api.State) { s.Refunded = 1 },
		func(s *api.State) { s.Refused = 4 },
		func(s *api.State) { s.Stamp = math.MinInt },
		func(s *api.State) { s.Who = "A" },
		func(s *api.State) { s.Lines[1].Item = 1 },
		func(s *api.State) { s.Lines = make([]api.Line, 17) },
	} {
		s := begun()
		change(&s)
		if b, bad := canon.Encode(s); bad != api.ErrState || len(b) > 0 {
			t.Errorf("Encode(%#v) = %x, %d", s, b, bad)
		}
		if n := canon.Size(s); n != 0 {
			t.Errorf("Size(%#v) = %d", s, n)
		}
	}
}

func TestP9_2Errors(t *testing.T) {
	line := numbers(1, 99, 1, 0)
	open := join(number(1, 7), number(2, 1))
	for _, x := range []struct {
		name string
		b    []byte
		want api.Errno
	}{
		{"nothing", nil, api.ErrState},
		{"no order", []byte{4, 1}, api.ErrState},
		{"cut", []byte{2}, api.ErrShort},
		{"a number longer than need be", []byte{2, 0x87, 0}, api.ErrLong},
		{"a number too wide", append([]byte{2}, 0xff, 0xff, 0xff, 0xff, 0xff, 0xff, 0xff, 0xff, 0xff, 2), api.ErrWide},
		{"tag 0", []byte{0, 7}, api.ErrTag},
		{"tag 32", []byte{2, 7, 64, 1}, api.ErrTag},
		{"tags that fall", []byte{4, 1, 2, 7}, api.ErrOrder},
		{"a field of nothing", []byte{2, 7, 4, 0}, api.ErrZero},
		{"a text too long", join(number(1, 7), text(11, make([]byte, 201))), api.ErrText},
		{"too large", bytes.Repeat([]byte{2, 7}, 600), api.ErrBig},
		{"tag 28", []byte{2, 7, 56, 1}, api.ErrTag},
		{"tag 31 with a text", join(number(1, 7), text(31, line)), api.ErrTag},
		{"a text at tag 2", []byte{2, 7, 5, 1, 'a'}, api.ErrForm},
		{"a text at tag 1", join(text(1, []byte{7})), api.ErrForm},
		{"a text at tag 10", join(number(1, 7), text(10, []byte{7})), api.ErrForm},
		{"a number at tag 11", []byte{2, 7, 22, 1}, api.ErrForm},
		{"a number at tag 12", []byte{2, 7, 24, 1}, api.ErrForm},
		{"a number at tag 13", join(open, text(12, line), number(13, 1)), api.ErrForm},
		{"a number at tag 13 behind a line that is none", join(open, text(12, []byte{1}), number(13, 1)), api.ErrForm},
		{"tag 13 without 12", []byte{2, 7, 27, 1, 'a'}, api.ErrTag},
		{"a number at tag 13 without 12", []byte{2, 7, 26, 1}, api.ErrTag},
		{"tag 14 without 13", join(open, text(12, line), text(14, numbers(2, 1, 1, 0))), api.ErrTag},
		{"a number at tag 14 without 13", join(open, text(12, line), number(14, 1)), api.ErrTag},
		{"tag 27 alone", join(open, text(27, line)), api.ErrTag},
		{"form ahead of tag", join(number(1, 7), number(11, 1), number(28, 1)), api.ErrForm},
		{"form ahead of a gap", join(number(1, 7), number(12, 1), text(14, line)), api.ErrForm},
		{"a form behind a gap is not looked at", join(open, number(13, 1), number(14, 1)), api.ErrTag},
		{"tlv's error ahead of form", join(text(1, []byte{7}), []byte{4}), api.ErrShort},
		{"tag ahead of state", join(number(2, 1), number(28, 1)), api.ErrTag},
		{"tag ahead of a line that is none", join(open, text(12, []byte{1}), number(28, 1)), api.ErrTag},
		{"a line of three numbers", join(open, text(12, numbers(1, 99, 1))), api.ErrState},
		{"a line of five numbers", join(open, text(12, numbers(1, 99, 1, 0, 0))), api.ErrState},
		{"a line with a number longer than need be", join(open, text(12, []byte{0x81, 0, 99, 1, 0})), api.ErrState},
		{"a line with a cut number", join(open, text(12, []byte{1, 99, 1, 0x80})), api.ErrState},
		{"a line of no pieces", join(open, text(12, numbers(1, 99, 0, 0))), api.ErrState},
		{"lines that do not rise", join(open, text(12, line), text(13, line)), api.ErrState},
		{"a status that is none", []byte{2, 7, 4, 6}, api.ErrState},
		{"an order above 2^62", join(append([]byte{2}, numbers(math.MaxUint64)...), number(2, 1)), api.ErrState},
		{"a status above 2^62", join(number(1, 7), append([]byte{4}, numbers(1<<63+1)...)), api.ErrState},
		{"a name that is none", join(open, text(11, []byte("A"))), api.ErrState},
	} {
		s, bad := canon.Decode(x.b)
		if bad != x.want || !same(s, api.State{}) {
			t.Errorf("%s: Decode(%x) = %#v, %d, want %d", x.name, x.b, s, bad, x.want)
		}
		if _, model := read(x.b); model != x.want {
			t.Errorf("%s: by the letter it is %d, want %d", x.name, model, x.want)
		}
	}
}

// Numbers that would be within their bounds if they were cut to fewer bits.
func TestP9_2GreatNumbersDoNotWrapRound(t *testing.T) {
	fields := []int{1, 1, 0, 0, 0, 0, 0, 0, 0, 0}
	for i := range fields {
		for _, high := range []uint64{1 << 32, 1 << 62, 1 << 63, 1<<63 | 1<<62} {
			b := []byte{}
			for j, n := range fields {
				u := uint64(n)
				if i == j {
					u |= high
				}
				if u != 0 {
					b = append(append(b, byte(2*j+2)), numbers(u)...)
				}
			}
			want := api.ErrState
			if high == 1<<32 && (i == 0 || i == 7 || i == 9) { // Order, Events and Stamp may be as great
				want = api.OK
			}
			if _, bad := canon.Decode(b); bad != want {
				t.Errorf("field %d with %x more: %d, want %d", i+1, high, bad, want)
			}
		}
	}
	for i := range 4 {
		for _, high := range []uint64{1 << 32, 1 << 62, 1 << 63, 1<<63 | 1<<62} {
			ns := []uint64{1, 99, 1, 0}
			ns[i] |= high
			if _, bad := canon.Decode(join(number(1, 7), number(2, 1), text(12, numbers(ns...)))); bad != api.ErrState {
				t.Errorf("number %d of a line with %x more: %d", i, high, bad)
			}
		}
	}
}

// holdTogether holds Decode against the chapter, and what it takes against Encode: P9.2 to P9.4.
func holdTogether(t *testing.T, b []byte) {
	t.Helper()
	s, bad := canon.Decode(b)
	want, errno := read(b)
	if bad != errno || !same(s, want) {
		t.Fatalf("Decode(%x) = %#v, %d, want %#v, %d", b, s, bad, want, errno)
	}
	if bad != api.OK {
		return
	}
	again, bad := canon.Encode(s)
	if bad != api.OK || !bytes.Equal(again, b) || canon.Size(s) != len(b) {
		t.Fatalf("Decode takes %x, Encode writes %x, %d, of Size %d", b, again, bad, canon.Size(s))
	}
}

func TestP9_2And3AllShortRecords(t *testing.T) {
	for i := range 1 << 16 {
		holdTogether(t, []byte{byte(i), byte(i >> 8)})
		holdTogether(t, []byte{2, 7, byte(i), byte(i >> 8)})
		holdTogether(t, []byte{2, 7, 4, 1, 25, 4, 1, byte(i), byte(i >> 8), 0})
		holdTogether(t, []byte{2, 7, 4, 1, byte(i), 4, 1, 1, byte(i >> 8), 0})
	}
}

func TestP9_2And3TurnedRecords(t *testing.T) {
	r := rand.New(rand.NewSource(92))
	for range 20000 {
		b := written(some(r))
		holdTogether(t, b)
		holdTogether(t, b[:r.Intn(len(b))])
		holdTogether(t, append(slices.Clone(b), byte(r.Intn(256))))
		b[r.Intn(len(b))] ^= 1 << r.Intn(8)
		holdTogether(t, b)
	}
}

// anyFields is fields of rising tags, of the kind that belongs there but now and then.
func anyFields(r *rand.Rand) []byte {
	b := number(1, 7)
	for tag := 2; tag <= 31; tag++ {
		if tag >= 13 && tag <= 27 && r.Intn(8) > 0 || r.Intn(2) == 0 {
			b = append(b, field(r, tag)...)
		}
		if r.Intn(12) == 0 {
			break
		}
	}
	return b
}

func field(r *rand.Rand, tag int) []byte {
	holdsText := tag >= 11
	if r.Intn(12) == 0 {
		holdsText = !holdsText
	}
	if !holdsText {
		return number(tag, r.Intn(3))
	}
	if tag == 11 {
		return text(tag, []byte("ann"))
	}
	return text(tag, numbers(uint64(tag), uint64(r.Intn(3)), uint64(1+r.Intn(3)), 0, 0)[:4+r.Intn(20)/19])
}

func TestP9_2And3AnyFields(t *testing.T) {
	r := rand.New(rand.NewSource(93))
	seen := map[api.Errno]int{}
	for range 60000 {
		b := anyFields(r)
		holdTogether(t, b)
		_, bad := canon.Decode(b)
		seen[bad]++
	}
	for _, bad := range []api.Errno{api.OK, api.ErrForm, api.ErrTag, api.ErrState} {
		if seen[bad] < 100 {
			t.Errorf("%d has come %d times only", bad, seen[bad])
		}
	}
}

func TestP9_3WhatEncodeWritesDecodeGivesBack(t *testing.T) {
	r := rand.New(rand.NewSource(94))
	for range 20000 {
		s := some(r)
		b, bad := canon.Encode(s)
		if bad != api.OK || !bytes.Equal(b, written(s)) {
			t.Fatalf("Encode(%#v) = %x, %d", s, b, bad)
		}
		if got, bad := canon.Decode(b); bad != api.OK || !same(got, s) {
			t.Fatalf("Decode(%x) = %#v, %d, want %#v", b, got, bad, s)
		}
		if n := canon.Size(s); n != len(b) {
			t.Fatalf("Size(%#v) = %d, want %d", s, n, len(b))
		}
	}
}

func TestP9_3TwoStatesHaveTwoRecords(t *testing.T) {
	base := api.State{Order: 7, Status: api.Cancelled, Cur: 1, Tax: 1, Paid: 20, Refunded: 1, Events: 9, Refused: 1, Stamp: 1, Who: "a",
		Lines: []api.Line{{Item: 1, Price: 5, Qty: 6}, {Item: 4, Price: 1, Qty: 1}}}
	b, bad := canon.Encode(base)
	if bad != api.OK {
		t.Fatal(bad)
	}
	for i, change := range []func(s *api.State){
		func(s *api.State) { s.Order = 8 }, func(s *api.State) { s.Status = api.Open; s.Refunded = 0 }, func(s *api.State) { s.Cur = 2 },
		func(s *api.State) { s.Tax = 2 }, func(s *api.State) { s.Paid = 21 }, func(s *api.State) { s.Refunded = 2 }, func(s *api.State) { s.Events = 10 },
		func(s *api.State) { s.Refused = 2 }, func(s *api.State) { s.Stamp = 2 }, func(s *api.State) { s.Who = "b" }, func(s *api.State) { s.Lines[0].Item = 2 },
		func(s *api.State) { s.Lines[0].Price = 6 }, func(s *api.State) { s.Lines[1].Qty = 2 }, func(s *api.State) { s.Lines = s.Lines[:1] },
	} {
		s := base
		s.Lines = slices.Clone(base.Lines)
		change(&s)
		other, bad := canon.Encode(s)
		if bad != api.OK || bytes.Equal(other, b) {
			t.Errorf("change %d: Encode = %x, %d", i, other, bad)
		}
	}
}

func TestRule4Memory(t *testing.T) {
	s := begun()
	room := append(slices.Clone(s.Lines), api.Line{Item: 71}, api.Line{Item: 72})
	kept := slices.Clone(room)
	s.Lines = room[:2]
	b, _ := canon.Encode(s)
	canon.Size(s)
	clear(b[:cap(b)])
	if again, _ := canon.Encode(s); !slices.Equal(room, kept) || !bytes.Equal(again, begunRecord) {
		t.Errorf("the lines have become %v, the record %x", room, again)
	}
	given := append(slices.Clone(whollyRecord), 0xaa, 0xbb)
	got, _ := canon.Decode(given[:len(whollyRecord)])
	if !bytes.Equal(given, append(slices.Clone(whollyRecord), 0xaa, 0xbb)) {
		t.Errorf("Decode has changed its argument: %x", given)
	}
	clear(given)
	if !same(got, wholly) {
		t.Errorf("the answer shares memory with the argument: %#v", got)
	}
}
