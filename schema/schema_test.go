package schema_test

import (
	"math"
	"math/rand"
	"strings"
	"testing"

	"daybook/api"
	"daybook/schema"
)

// add is the event of the chapter's first example.
var add = api.Event{Kind: api.Add, Order: 7, Item: 3, Qty: -2, Price: 5}

// wholly is an event with something in each field.
var wholly = api.Event{Kind: api.Clear, Order: 2, Item: 3, Qty: 4, Price: 5, Cur: 1, Tax: 7, Who: "ann-8", Stamp: 9, Note: "\x00\xff n"}

// row is what the chapter's table says of a version.
type row struct {
	last              api.Kind
	leastQty          int
	mostPrice         int
	cur, tax, who, at bool // at: Stamp and Note
}

// rows is the chapter's table; the versions are its places less 1.
var rows = []row{
	{5, -10000, 1000000, false, false, false, false},
	{5, -10000, 100000000, true, false, false, false},
	{7, 0, 100000000, true, true, false, false},
	{9, 0, 100000000, true, true, true, false},
	{10, 0, 100000000, true, true, true, true},
}

// with is e with a field put over.
func with(e api.Event, put func(e *api.Event)) api.Event {
	put(&e)
	return e
}

// right is some event that is right in that version, at the edges as often as not.
func right(r *rand.Rand, v int) api.Event {
	is := rows[v-1]
	pick := func(least, most int) int {
		switch r.Intn(4) {
		case 0:
			return least
		case 1:
			return most
		}
		return least + r.Intn(most-least+1)
	}
	maybe := func(has bool, most int) int {
		if !has {
			return 0
		}
		return pick(0, most)
	}
	e := api.Event{
		Kind:  api.Kind(pick(1, int(is.last))),
		Order: pick(1, 1<<40),
		Item:  pick(0, 65535),
		Qty:   pick(is.leastQty, 10000),
		Price: pick(0, is.mostPrice),
		Cur:   maybe(is.cur, 3),
		Tax:   maybe(is.tax, 5000),
		Stamp: maybe(is.at, 1<<40),
	}
	who := []byte{}
	for range maybe(is.who, 16) {
		who = append(who, "abcmnxyz0189-"[r.Intn(13)])
	}
	note := make([]byte, maybe(is.at, 120))
	r.Read(note)
	e.Who, e.Note = string(who), string(note)
	return e
}

func TestP6_6LiftHasAllFields(t *testing.T) {
	five := schema.Lift(wholly)
	want := schema.V5{
		V4: schema.V4{
			V3: schema.V3{
				V2:  schema.V2{V1: schema.V1{Kind: api.Clear, Order: 2, Item: 3, Qty: 4, Price: 5}, Cur: 1},
				Tax: 7,
			},
			Who: "ann-8",
		},
		Stamp: 9,
		Note:  "\x00\xff n",
	}
	if five != want {
		t.Errorf("Lift = %#v", five)
	}
}

func TestP6_6EventHasTheVersionsFields(t *testing.T) {
	five := schema.Lift(wholly)
	want := wholly
	if e := five.Event(); e != want {
		t.Errorf("V5: %#v", e)
	}
	want.Stamp, want.Note = 0, ""
	if e := five.V4.Event(); e != want {
		t.Errorf("V4: %#v", e)
	}
	want.Who = ""
	if e := five.V3.Event(); e != want {
		t.Errorf("V3: %#v", e)
	}
	want.Tax = 0
	if e := five.V2.Event(); e != want {
		t.Errorf("V2: %#v", e)
	}
	want.Cur = 0
	if e := five.V1.Event(); e != want {
		t.Errorf("V1: %#v", e)
	}
}

func TestP6_6LiftTakesWhateverThereIs(t *testing.T) {
	for _, e := range []api.Event{
		{},
		add,
		{Kind: -1, Order: math.MinInt, Item: -1, Qty: math.MaxInt, Price: -7, Cur: 99, Tax: -1, Who: strings.Repeat("A", 300), Stamp: math.MinInt, Note: strings.Repeat("\xff", 500)},
		{Kind: 77, Order: math.MaxInt, Item: math.MaxInt, Qty: math.MinInt, Price: math.MaxInt, Cur: -1, Tax: math.MaxInt, Who: "\x00", Stamp: math.MaxInt},
	} {
		if got := schema.Lift(e).Event(); got != e {
			t.Errorf("Lift(%#v) is the event %#v", e, got)
		}
	}
}

func TestP6_6KeyAndWorth(t *testing.T) {
	for _, x := range []struct{ order, qty, price, worth int }{
		{7, -2, 5, -10},
		{0, 0, 5, 0},
		{-3, 10000, 100000000, 1000000000000},
		{math.MaxInt, math.MaxInt, 2, -2},
		{math.MinInt, math.MinInt, -1, math.MinInt},
		{1, 1 << 32, 1 << 32, 0},
	} {
		five := schema.Lift(api.Event{Order: x.order, Qty: x.qty, Price: x.price})
		for i, asked := range []interface {
			Key() int
			Worth() int
		}{five.V1, five.V2, five.V3, five.V4, five} {
			if asked.Key() != x.order || asked.Worth() != x.worth {
				t.Errorf("V%d: Key %d, Worth %d, want %d, %d", i+1, asked.Key(), asked.Worth(), x.order, x.worth)
			}
		}
	}
}
