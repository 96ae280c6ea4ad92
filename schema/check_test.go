package schema_test

import (
	"math"
	"math/rand"
	"slices"
	"strings"
	"testing"

	"daybook/api"
	"daybook/schema"
)

// judged is Check by the letter of the chapter.
func judged(v int, e api.Event) api.Errno {
	if v < 1 || v > 5 {
		return api.ErrVersion
	}
	is := rows[v-1]
	if e.Kind < 1 || e.Kind > is.last {
		return api.ErrKind
	}
	if len(e.Who) > 16 || len(e.Note) > 120 {
		return api.ErrBig
	}
	bad := e.Order < 1 || e.Order > 1<<40 || e.Item < 0 || e.Item > 65535 ||
		e.Qty < is.leastQty || e.Qty > 10000 || e.Price < 0 || e.Price > is.mostPrice
	bad = bad || is.cur && (e.Cur < 0 || e.Cur > 3) || !is.cur && e.Cur != 0
	bad = bad || is.tax && (e.Tax < 0 || e.Tax > 5000) || !is.tax && e.Tax != 0
	bad = bad || is.who && strings.Trim(e.Who, "abcdefghijklmnopqrstuvwxyz0123456789-") != "" || !is.who && e.Who != ""
	bad = bad || is.at && (e.Stamp < 0 || e.Stamp > 1<<40) || !is.at && (e.Stamp != 0 || e.Note != "")
	if bad {
		return api.ErrField
	}
	return api.OK
}

var versions = []int{math.MinInt, -1, 0, 1, 2, 3, 4, 5, 6, 7, 256 + 1, math.MaxInt}

func TestP6_1Examples(t *testing.T) {
	place := api.Event{Kind: api.Place, Order: 1}
	for _, x := range []struct {
		name string
		v    int
		e    api.Event
		want api.Errno
	}{
		{"a quantity below 0", 1, add, api.OK},
		{"a quantity below 0 of version 2", 2, add, api.OK},
		{"a quantity below 0 of version 3", 3, add, api.ErrField},
		{"Cur of version 1", 1, with(add, func(e *api.Event) { e.Cur = 1 }), api.ErrField},
		{"Cur of version 2", 2, with(add, func(e *api.Event) { e.Cur = 1 }), api.OK},
		{"Drop of version 2", 2, with(place, func(e *api.Event) { e.Kind = api.Drop }), api.ErrKind},
		{"version 0", 0, place, api.ErrVersion},
		{"version 6", 6, place, api.ErrVersion},
		{"Who of 17 letters", 1, with(place, func(e *api.Event) { e.Who = strings.Repeat("a", 17) }), api.ErrBig},
		{"Who of version 1", 1, with(place, func(e *api.Event) { e.Who = "a" }), api.ErrField},
		{"Note of 121 bytes of version 1", 1, with(place, func(e *api.Event) { e.Note = strings.Repeat("a", 121) }), api.ErrBig},
		{"Note of version 4", 4, with(place, func(e *api.Event) { e.Note = "a" }), api.ErrField},
		{"Stamp of version 4", 4, with(place, func(e *api.Event) { e.Stamp = 1 }), api.ErrField},
		{"Tax of version 2", 2, with(place, func(e *api.Event) { e.Tax = 1 }), api.ErrField},
		{"Who of version 3", 3, with(place, func(e *api.Event) { e.Who = "old" }), api.ErrField},
		{"nothing at all", 5, api.Event{}, api.ErrKind},
		{"no order", 5, api.Event{Kind: api.Place}, api.ErrField},
	} {
		if e := schema.Check(x.v, x.e); e != x.want {
			t.Errorf("%s: %d, want %d", x.name, e, x.want)
		}
	}
}

// The answer is the error that the chapter names first.
func TestP6_1OrderOfErrors(t *testing.T) {
	e := api.Event{Kind: 11, Who: strings.Repeat("A", 17), Order: -1}
	for _, v := range []int{0, 6, -1} {
		if bad := schema.Check(v, e); bad != api.ErrVersion {
			t.Errorf("Check(%d, ..) = %d", v, bad)
		}
	}
	for v := 1; v <= 5; v++ {
		if bad := schema.Check(v, e); bad != api.ErrKind {
			t.Errorf("version %d, a kind that is none: %d", v, bad)
		}
		known := with(e, func(e *api.Event) { e.Kind = api.Place })
		if bad := schema.Check(v, known); bad != api.ErrBig {
			t.Errorf("version %d, a long Who: %d", v, bad)
		}
		short := with(known, func(e *api.Event) { e.Who = "" })
		if bad := schema.Check(v, short); bad != api.ErrField {
			t.Errorf("version %d, an order below 0: %d", v, bad)
		}
	}
}

// edges is, for each field, values on both sides of each of its bounds and far out of them.
func edges(e api.Event) []api.Event {
	var es []api.Event
	put := func(set func(e *api.Event, x int), xs ...int) {
		for _, x := range append(xs, math.MinInt, math.MaxInt, 1<<62, -1<<62, 1<<32, 1<<32+1) {
			es = append(es, with(e, func(e *api.Event) { set(e, x) }))
		}
	}
	put(func(e *api.Event, x int) { e.Kind = api.Kind(x) }, -1, 0, 1, 2, 3, 4, 5, 6, 7, 8, 9, 10, 11)
	put(func(e *api.Event, x int) { e.Order = x }, -1, 0, 1, 1<<40-1, 1<<40, 1<<40+1)
	put(func(e *api.Event, x int) { e.Item = x }, -1, 0, 1, 65535, 65536)
	put(func(e *api.Event, x int) { e.Qty = x }, -10001, -10000, -1, 0, 1, 10000, 10001)
	put(func(e *api.Event, x int) { e.Price = x }, -1, 0, 1, 1000000, 1000001, 100000000, 100000001)
	put(func(e *api.Event, x int) { e.Cur = x }, -1, 0, 1, 3, 4)
	put(func(e *api.Event, x int) { e.Tax = x }, -1, 0, 1, 5000, 5001)
	put(func(e *api.Event, x int) { e.Stamp = x }, -1, 0, 1, 1<<40, 1<<40+1)
	for _, n := range []int{0, 1, 15, 16, 17, 119, 120, 121, 500} {
		es = append(es, with(e, func(e *api.Event) { e.Who = strings.Repeat("z", n) }))
		es = append(es, with(e, func(e *api.Event) { e.Note = strings.Repeat("\x00", n) }))
	}
	for c := range 256 {
		who := string([]byte{'a', byte(c), '-'})
		es = append(es, with(e, func(e *api.Event) { e.Who = who }), with(e, func(e *api.Event) { e.Who = who[1:2] }))
		es = append(es, with(e, func(e *api.Event) { e.Note = who[1:2] }))
	}
	return es
}

func TestP6_1AllEdges(t *testing.T) {
	r := rand.New(rand.NewSource(61))
	for from := 1; from <= 5; from++ {
		for range 5 {
			for _, e := range edges(right(r, from)) {
				for _, v := range versions {
					if got, want := schema.Check(v, e), judged(v, e); got != want {
						t.Fatalf("Check(%d, %#v) = %d, want %d", v, e, got, want)
					}
				}
			}
		}
	}
}

func TestP6_1RightEvents(t *testing.T) {
	r := rand.New(rand.NewSource(62))
	for v := 1; v <= 5; v++ {
		for range 500 {
			if e := right(r, v); schema.Check(v, e) != api.OK {
				t.Fatalf("Check(%d, %#v) = %d", v, e, schema.Check(v, e))
			}
		}
	}
}

func TestP6_7Kinds(t *testing.T) {
	want := map[int][]api.Kind{
		1: {1, 2, 3, 4, 5},
		2: {1, 2, 3, 4, 5},
		3: {1, 2, 3, 4, 5, 6, 7},
		4: {1, 2, 3, 4, 5, 6, 7, 8, 9},
		5: {1, 2, 3, 4, 5, 6, 7, 8, 9, 10},
	}
	for _, v := range versions {
		if got := schema.Kinds(v); !slices.Equal(got, want[v]) {
			t.Errorf("Kinds(%d) = %v", v, got)
		}
	}
	for v := 1; v <= 5; v++ {
		clear(schema.Kinds(v)) // new memory at each call
		if got := schema.Kinds(v); !slices.Equal(got, want[v]) {
			t.Errorf("Kinds(%d) = %v behind a change of its answer", v, got)
		}
	}
}
