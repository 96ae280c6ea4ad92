package upcast_test

import (
	"bytes"
	"math"
	"math/rand"
	"slices"
	"strings"
	"testing"

	"daybook/api"
	"daybook/schema"
	"daybook/upcast"
)

// right is some event that is right in that version: the likes of those in which the steps change something come often.
func right(r *rand.Rand, v int) api.Event {
	for {
		e := api.Event{
			Kind:  api.Kind(1 + r.Intn(10)),
			Order: 1 + r.Intn(1<<40),
			Item:  r.Intn(65536),
			Qty:   []int{-10000, -1 - r.Intn(10000), 0, 0, 1 + r.Intn(10000), 10000}[r.Intn(6)],
			Price: []int{0, r.Intn(1000001), 1000000, r.Intn(100000001), 100000000}[r.Intn(5)],
		}
		if v >= 2 {
			e.Cur = r.Intn(4)
		}
		if v >= 3 {
			e.Tax = r.Intn(5001)
		}
		if v >= 4 {
			e.Who = []string{"", "ann", "old", strings.Repeat("-", 16)}[r.Intn(4)]
		}
		if v >= 5 {
			e.Stamp, e.Note = r.Intn(1<<40+1), strings.Repeat("\xff", r.Intn(121))
		}
		if schema.Check(v, e) == api.OK {
			return e
		}
	}
}

// stepped is one step by the letter of the chapter.
func stepped(v int, e api.Event) api.Event {
	switch v {
	case 1:
		e.Price = 100 * e.Price
	case 2:
		if e.Kind == api.Add && e.Qty < 0 {
			e.Kind = api.Drop
			e.Qty = -e.Qty
		} else if e.Qty < 0 {
			e.Qty = 0
		}
		e.Tax = map[int]int{0: 0, 1: 1900, 2: 2000, 3: 700}[e.Cur]
	case 3:
		e.Who = "old"
	case 4:
		if e.Kind == api.Ship && e.Qty == 0 {
			e.Kind = api.Clear
			e.Item = 0
		}
	}
	return e
}

var (
	add      = api.Event{Kind: api.Add, Order: 7, Item: 3, Qty: -2, Price: 5}
	versions = []int{math.MinInt, -1, 0, 1, 2, 3, 4, 5, 6, math.MaxInt - 1, math.MaxInt}
)

func TestP7_1Steps(t *testing.T) {
	for _, x := range []struct {
		name    string
		v       int
		e, want api.Event
	}{
		{"units", 1, add, api.Event{Kind: api.Add, Order: 7, Item: 3, Qty: -2, Price: 500}},
		{"the greatest price", 1, api.Event{Kind: api.Pay, Order: 1, Price: 1000000}, api.Event{Kind: api.Pay, Order: 1, Price: 100000000}},
		{"no price", 1, api.Event{Kind: api.Place, Order: 1}, api.Event{Kind: api.Place, Order: 1}},
		{"an Add below 0", 2, add, api.Event{Kind: api.Drop, Order: 7, Item: 3, Qty: 2, Price: 5}},
		{"the least Add", 2, api.Event{Kind: api.Add, Order: 1, Qty: -10000}, api.Event{Kind: api.Drop, Order: 1, Qty: 10000}},
		{"an Add of 0", 2, api.Event{Kind: api.Add, Order: 1}, api.Event{Kind: api.Add, Order: 1}},
		{"an Add above 0", 2, api.Event{Kind: api.Add, Order: 1, Qty: 4}, api.Event{Kind: api.Add, Order: 1, Qty: 4}},
		{"a Place below 0", 2, api.Event{Kind: api.Place, Order: 1, Qty: -1}, api.Event{Kind: api.Place, Order: 1}},
		{"a Ship below 0", 2, api.Event{Kind: api.Ship, Order: 1, Item: 5, Qty: -1}, api.Event{Kind: api.Ship, Order: 1, Item: 5}},
		{"a Ship above 0", 2, api.Event{Kind: api.Ship, Order: 1, Qty: 3}, api.Event{Kind: api.Ship, Order: 1, Qty: 3}},
		{"currency 1", 2, api.Event{Kind: api.Place, Order: 1, Cur: 1}, api.Event{Kind: api.Place, Order: 1, Cur: 1, Tax: 1900}},
		{"currency 2", 2, api.Event{Kind: api.Place, Order: 1, Cur: 2}, api.Event{Kind: api.Place, Order: 1, Cur: 2, Tax: 2000}},
		{"currency 3", 2, api.Event{Kind: api.Place, Order: 1, Cur: 3}, api.Event{Kind: api.Place, Order: 1, Cur: 3, Tax: 700}},
		{"who", 3, api.Event{Kind: api.Refund, Order: 1, Price: 2, Cur: 1, Tax: 5}, api.Event{Kind: api.Refund, Order: 1, Price: 2, Cur: 1, Tax: 5, Who: "old"}},
		{"a Ship of 0 stays till 4", 3, api.Event{Kind: api.Ship, Order: 1, Item: 2}, api.Event{Kind: api.Ship, Order: 1, Item: 2, Who: "old"}},
		{"a Ship of 0", 4, api.Event{Kind: api.Ship, Order: 1, Item: 2, Price: 3, Cur: 1, Tax: 5, Who: "ann"}, api.Event{Kind: api.Clear, Order: 1, Price: 3, Cur: 1, Tax: 5, Who: "ann"}},
		{"a Ship of 1", 4, api.Event{Kind: api.Ship, Order: 1, Item: 2, Qty: 1}, api.Event{Kind: api.Ship, Order: 1, Item: 2, Qty: 1}},
		{"an Add of 0 in version 4", 4, api.Event{Kind: api.Add, Order: 1, Item: 2}, api.Event{Kind: api.Add, Order: 1, Item: 2}},
	} {
		if e, bad := upcast.Step(x.v, x.e); e != x.want || bad != api.OK {
			t.Errorf("%s: Step = %#v, %d, want %#v", x.name, e, bad, x.want)
		}
	}
}

func TestP7_1StepByTheLetter(t *testing.T) {
	r := rand.New(rand.NewSource(71))
	for v := 1; v <= 4; v++ {
		for range 2000 {
			e := right(r, v)
			if got, bad := upcast.Step(v, e); got != stepped(v, e) || bad != api.OK {
				t.Fatalf("Step(%d, %#v) = %#v, %d", v, e, got, bad)
			}
		}
	}
}

// bad is events that are right in no version.
var bad = []struct {
	e    api.Event
	want api.Errno
}{
	{api.Event{}, api.ErrKind},
	{api.Event{Kind: 11, Order: 1}, api.ErrKind},
	{api.Event{Kind: api.Place, Who: strings.Repeat("a", 17)}, api.ErrBig},
	{api.Event{Kind: api.Place, Order: 1, Cur: 4}, api.ErrField},
	{api.Event{Kind: api.Place, Order: 1, Cur: math.MinInt}, api.ErrField},
	{api.Event{Kind: api.Add, Order: 1, Qty: math.MinInt}, api.ErrField},
	{api.Event{Kind: api.Add, Order: 1, Price: math.MaxInt}, api.ErrField},
}

func TestP7_1StepRefuses(t *testing.T) {
	place := api.Event{Kind: api.Place, Order: 1}
	for _, v := range versions {
		known := 1 <= v && v <= 4
		if e, got := upcast.Step(v, place); !known && (e != api.Event{} || got != api.ErrVersion) {
			t.Errorf("Step(%d, ..) = %#v, %d", v, e, got)
		}
		for _, x := range bad {
			want := x.want
			if !known {
				want = api.ErrVersion
			}
			if e, got := upcast.Step(v, x.e); e != (api.Event{}) || got != want {
				t.Errorf("Step(%d, %#v) = %#v, %d, want %d", v, x.e, e, got, want)
			}
		}
	}
	for _, x := range []struct {
		v    int
		e    api.Event
		want api.Errno
	}{
		{1, api.Event{Kind: api.Drop, Order: 1}, api.ErrKind},
		{1, api.Event{Kind: api.Place, Order: 1, Cur: 1}, api.ErrField},
		{1, api.Event{Kind: api.Place, Order: 1, Price: 1000001}, api.ErrField},
		{2, api.Event{Kind: api.Place, Order: 1, Tax: 1}, api.ErrField},
		{3, add, api.ErrField},
		{3, api.Event{Kind: api.Place, Order: 1, Who: "old"}, api.ErrField},
		{4, api.Event{Kind: api.Clear, Order: 1}, api.ErrKind},
		{4, api.Event{Kind: api.Place, Order: 1, Note: "a"}, api.ErrField},
	} {
		if e, got := upcast.Step(x.v, x.e); e != (api.Event{}) || got != x.want {
			t.Errorf("Step(%d, %#v) = %#v, %d, want %d", x.v, x.e, e, got, x.want)
		}
	}
}

func TestP7_2To(t *testing.T) {
	if e, got := upcast.To(1, 3, add); e != (api.Event{Kind: api.Drop, Order: 7, Item: 3, Qty: 2, Price: 500}) || got != api.OK {
		t.Errorf("To(1, 3, ..) = %#v, %d", e, got)
	}
	if e, got := upcast.To(2, 2, add); e != add || got != api.OK {
		t.Errorf("To(2, 2, ..) = %#v, %d", e, got)
	}
	r := rand.New(rand.NewSource(72))
	for from := 1; from <= 5; from++ {
		for to := from; to <= 5; to++ {
			for range 500 {
				e := right(r, from)
				want := e
				for v := from; v < to; v++ {
					want = stepped(v, want)
				}
				if got, bad := upcast.To(from, to, e); got != want || bad != api.OK {
					t.Fatalf("To(%d, %d, %#v) = %#v, %d, want %#v", from, to, e, got, bad, want)
				}
			}
		}
	}
}

func TestP7_2ToRefuses(t *testing.T) {
	place := api.Event{Kind: api.Place, Order: 1}
	for _, from := range versions {
		for _, to := range versions {
			known := 1 <= from && from <= to && to <= 5
			if e, got := upcast.To(from, to, place); !known && (e != api.Event{} || got != api.ErrVersion) {
				t.Errorf("To(%d, %d, ..) = %#v, %d", from, to, e, got)
			}
			for _, x := range bad {
				want := x.want
				if !known {
					want = api.ErrVersion
				}
				if e, got := upcast.To(from, to, x.e); e != (api.Event{}) || got != want {
					t.Errorf("To(%d, %d, %#v) = %#v, %d, want %d", from, to, x.e, e, got, want)
				}
			}
		}
	}
	// It is asked of the version from which it comes.
	if e, got := upcast.To(2, 4, api.Event{Kind: api.Place, Order: 1, Tax: 1}); e != (api.Event{}) || got != api.ErrField {
		t.Errorf("To(2, 4, with a tax) = %#v, %d", e, got)
	}
}

func TestP7_3Chain(t *testing.T) {
	for _, x := range []struct {
		v       int
		e, want api.Event
	}{
		{1, add, api.Event{Kind: api.Drop, Order: 7, Item: 3, Qty: 2, Price: 500, Who: "old"}},
		{2, api.Event{Kind: api.Pay, Order: 1, Price: 30, Cur: 1, Qty: -4}, api.Event{Kind: api.Pay, Order: 1, Price: 30, Cur: 1, Tax: 1900, Who: "old"}},
		{3, api.Event{Kind: api.Ship, Order: 1, Item: 2}, api.Event{Kind: api.Clear, Order: 1, Who: "old"}},
		{1, api.Event{Kind: api.Ship, Order: 1, Item: 2, Qty: -9}, api.Event{Kind: api.Clear, Order: 1, Who: "old"}},
		{5, api.Event{Kind: api.Ship, Order: 1, Item: 2}, api.Event{Kind: api.Ship, Order: 1, Item: 2}},
	} {
		if e, got := upcast.Chain(x.v, x.e); e != x.want || got != api.OK {
			t.Errorf("Chain(%d, %#v) = %#v, %d, want %#v", x.v, x.e, e, got, x.want)
		}
	}
	r := rand.New(rand.NewSource(73))
	for _, v := range versions {
		for _, x := range bad {
			want, e := upcast.To(v, 5, x.e)
			if got, bad := upcast.Chain(v, x.e); got != want || bad != e {
				t.Errorf("Chain(%d, %#v) = %#v, %d, want %#v, %d", v, x.e, got, bad, want, e)
			}
		}
		for range 1000 {
			event := right(r, 1+r.Intn(5))
			want, e := upcast.To(v, 5, event)
			if got, bad := upcast.Chain(v, event); got != want || bad != e {
				t.Fatalf("Chain(%d, %#v) = %#v, %d, want %#v, %d", v, event, got, bad, want, e)
			}
		}
	}
}

func TestP7_4Read(t *testing.T) {
	packed := []byte{1, 2, 2, 4, 7, 6, 3, 8, 3, 10, 5}
	outer := append(slices.Clone(packed), 0xa5, 0xa5)
	want := api.Event{Kind: api.Drop, Order: 7, Item: 3, Qty: 2, Price: 500, Who: "old"}
	if e, got := upcast.Read(outer[:len(packed)]); e != want || got != api.OK {
		t.Errorf("Read = %#v, %d", e, got)
	}
	if !bytes.Equal(outer, append(slices.Clone(packed), 0xa5, 0xa5)) {
		t.Errorf("Read has changed its argument: %x", outer)
	}
	r := rand.New(rand.NewSource(74))
	for v := 1; v <= 5; v++ {
		for range 500 {
			e := right(r, v)
			b, _ := schema.Pack(v, e)
			want, _ := upcast.To(v, 5, e)
			if got, bad := upcast.Read(b); got != want || bad != api.OK {
				t.Fatalf("Read(%x) = %#v, %d, want %#v", b, got, bad, want)
			}
		}
	}
}

func TestP7_4ReadRefuses(t *testing.T) {
	for _, x := range []struct {
		b    []byte
		want api.Errno
	}{
		{nil, api.ErrShort},
		{[]byte{0x81, 0}, api.ErrLong},
		{bytes.Repeat([]byte{0xff}, 11), api.ErrWide},
		{[]byte{0, 2, 1, 4, 7}, api.ErrVersion},
		{[]byte{6, 2, 1, 4, 7}, api.ErrVersion},
		{[]byte{1, 2, 1, 4, 7, 12, 1}, api.ErrTag},
		{[]byte{4, 2, 1, 4, 7, 16, 1}, api.ErrForm},
		{[]byte{4, 2, 10, 4, 7}, api.ErrKind},
		{[]byte{1, 2, 1}, api.ErrField},
		{append([]byte{1}, make([]byte, 1025)...), api.ErrBig},
	} {
		if e, got := upcast.Read(x.b); e != (api.Event{}) || got != x.want {
			t.Errorf("Read(%x) = %#v, %d, want %d", x.b, e, got, x.want)
		}
	}
}

func TestP7_5WhatComesOutIsRight(t *testing.T) {
	r := rand.New(rand.NewSource(75))
	for from := 1; from <= 5; from++ {
		for range 300 {
			e := right(r, from)
			for to := from; to <= 5; to++ {
				whole, bad := upcast.To(from, to, e)
				if bad != api.OK || whole.Order != e.Order || schema.Check(to, whole) != api.OK {
					t.Fatalf("To(%d, %d, %#v) = %#v, %d", from, to, e, whole, bad)
				}
				for by := from; by <= to; by++ {
					half, _ := upcast.To(from, by, e)
					if rest, bad := upcast.To(by, to, half); rest != whole || bad != api.OK {
						t.Fatalf("To(%d, %d, %#v) by %d = %#v, %d, want %#v", from, to, e, by, rest, bad, whole)
					}
				}
			}
		}
	}
}
