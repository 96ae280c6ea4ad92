package order_test

import (
	"math"
	"math/rand"
	"slices"
	"testing"

	"daybook/api"
	"daybook/order"
	"daybook/schema"
)

// The events of the chapter's first two examples.
var (
	placed  = api.Event{Kind: api.Place, Order: 7, Tax: 1000}
	added3  = api.Event{Kind: api.Add, Order: 7, Item: 3, Qty: 2, Price: 500}
	added1  = api.Event{Kind: api.Add, Order: 7, Item: 1, Qty: 1, Price: 99}
	payment = api.Event{Kind: api.Pay, Order: 7, Price: 1208}
	sent3   = api.Event{Kind: api.Ship, Order: 7, Item: 3, Qty: 2}
	sent1   = api.Event{Kind: api.Ship, Order: 7, Item: 1, Qty: 1}
)

// begun is the state of the chapter's first example.
func begun() api.State {
	return api.State{Order: 7, Status: api.Open, Tax: 1000, Events: 3, Lines: []api.Line{{Item: 1, Price: 99, Qty: 1}, {Item: 3, Price: 500, Qty: 2}}}
}

// full is that state with all paid.
func full() api.State {
	return put(begun(), func(s *api.State) { s.Status, s.Paid, s.Events = api.Paid, 1208, 4 })
}

// event is an event of order 7.
func event(k api.Kind, item, qty, price int) api.Event {
	return api.Event{Kind: k, Order: 7, Item: item, Qty: qty, Price: price}
}

func TestP8_1Empty(t *testing.T) {
	for _, id := range []int{7, 1, 0, -1, 1 << 40, 1<<40 + 1, math.MinInt, math.MaxInt} {
		if s := order.Empty(id); !same(s, api.State{Order: id}) {
			t.Errorf("Empty(%d) = %#v", id, s)
		}
		if order.Valid(order.Empty(id)) != (id >= 1 && id <= 1<<40) {
			t.Errorf("Valid(Empty(%d))", id)
		}
	}
}

func TestP8_1ValidExamples(t *testing.T) {
	held := func(s api.State) api.State {
		return put(s, func(s *api.State) { s.Prior, s.Status = s.Status, api.Held })
	}
	gone := put(full(), func(s *api.State) { s.Status, s.Lines[0].Shipped, s.Lines[1].Shipped = api.Sent, 1, 2 })
	ended := put(begun(), func(s *api.State) { s.Status, s.Paid, s.Refunded = api.Cancelled, 8, 8 })
	for _, x := range []struct {
		name   string
		s      api.State
		change func(s *api.State)
		want   bool
	}{
		{"nothing at all", api.State{}, func(s *api.State) {}, false},
		{"an empty one", order.Empty(1), func(s *api.State) {}, true},
		{"an empty one that has refused", order.Empty(1), func(s *api.State) { s.Events, s.Refused = 3, 3 }, true},
		{"an empty one that has not refused all", order.Empty(1), func(s *api.State) { s.Events, s.Refused = 3, 2 }, false},
		{"an empty one with a currency", order.Empty(1), func(s *api.State) { s.Cur = 1 }, false},
		{"an empty one with a tax", order.Empty(1), func(s *api.State) { s.Tax = 1 }, false},
		{"an empty one with a stamp", order.Empty(1), func(s *api.State) { s.Stamp = 1 }, false},
		{"an empty one with a name", order.Empty(1), func(s *api.State) { s.Who = "a" }, false},
		{"an empty one with a line", order.Empty(1), func(s *api.State) { s.Lines = []api.Line{{Qty: 1}} }, false},
		{"an empty one that has lines and is paid", order.Empty(1), func(s *api.State) { s.Lines, s.Paid = []api.Line{{Qty: 1, Price: 1}}, 1 }, false},
		{"open", begun(), func(s *api.State) {}, true},
		{"open without lines", begun(), func(s *api.State) { s.Lines = nil }, true},
		{"open with an empty list of lines", begun(), func(s *api.State) { s.Lines = []api.Line{} }, true},
		{"open, paid in part", begun(), func(s *api.State) { s.Paid = 1207 }, true},
		{"open, all paid", begun(), func(s *api.State) { s.Paid = 1208 }, false},
		{"open, nothing due", begun(), func(s *api.State) { s.Lines[0].Price, s.Lines[1].Price = 0, 0 }, true},
		{"open, shipped", begun(), func(s *api.State) { s.Lines[1].Shipped = 1 }, false},
		{"open, refunded", begun(), func(s *api.State) { s.Paid, s.Refunded = 2, 1 }, false},
		{"open, more paid than due", begun(), func(s *api.State) { s.Paid = 1209 }, false},
		{"open with a Prior", begun(), func(s *api.State) { s.Prior = api.Open }, false},
		{"lines that do not rise", begun(), func(s *api.State) { s.Lines[1].Item = 1 }, false},
		{"lines that fall", begun(), func(s *api.State) { s.Lines[0].Item = 4 }, false},
		{"a line of no pieces", begun(), func(s *api.State) { s.Lines[0].Qty = 0 }, false},
		{"held, open", held(begun()), func(s *api.State) {}, true},
		{"held, open, all paid", held(begun()), func(s *api.State) { s.Paid = 1208 }, false},
		{"held, paid", held(full()), func(s *api.State) {}, true},
		{"held, paid, shipped in part and refunded", held(full()), func(s *api.State) { s.Lines[0].Shipped, s.Refunded = 1, 1208 }, true},
		{"held, paid, all shipped", held(gone), func(s *api.State) { s.Prior = api.Paid }, false},
		{"held, sent", held(gone), func(s *api.State) {}, false},
		{"held, held", held(full()), func(s *api.State) { s.Prior = api.Held }, false},
		{"held, cancelled", held(ended), func(s *api.State) {}, false},
		{"held without a Prior", held(order.Empty(1)), func(s *api.State) {}, false},
		{"paid", full(), func(s *api.State) {}, true},
		{"paid, refunded", full(), func(s *api.State) { s.Refunded = 1208 }, true},
		{"paid, more refunded", full(), func(s *api.State) { s.Refunded = 1209 }, false},
		{"paid in part", full(), func(s *api.State) { s.Paid = 1207 }, false},
		{"paid, nothing due", full(), func(s *api.State) { s.Paid, s.Lines[0].Price, s.Lines[1].Price = 0, 0, 0 }, false},
		{"paid, shipped in part", full(), func(s *api.State) { s.Lines[1].Shipped = 1 }, true},
		{"paid, all shipped", full(), func(s *api.State) { s.Lines[0].Shipped, s.Lines[1].Shipped = 1, 2 }, false},
		{"sent", gone, func(s *api.State) {}, true},
		{"sent, not all shipped", gone, func(s *api.State) { s.Lines[1].Shipped = 1 }, false},
		{"sent, not all paid", gone, func(s *api.State) { s.Paid = 1207 }, false},
		{"sent without lines", gone, func(s *api.State) { s.Lines, s.Paid = nil, 0 }, false},
		{"cancelled", ended, func(s *api.State) {}, true},
		{"cancelled, all paid", ended, func(s *api.State) { s.Paid = 1208 }, true},
		{"cancelled, shipped", ended, func(s *api.State) { s.Lines[0].Shipped = 1 }, false},
		{"cancelled with a Prior", ended, func(s *api.State) { s.Prior = api.Paid }, false},
	} {
		if s := put(x.s, x.change); order.Valid(s) != x.want {
			t.Errorf("%s: Valid(%#v) is not %v", x.name, s, x.want)
		}
	}
}

func TestP8_1LimitOfLines(t *testing.T) {
	s := api.State{Order: 1, Status: api.Open}
	for item := range 16 {
		s.Lines = append(s.Lines, api.Line{Item: item, Price: 100000000, Qty: 100000})
	}
	if !order.Valid(s) {
		t.Error("16 lines of the greatest are not valid")
	}
	s.Tax = 5000
	if due, ok := order.Due(s); !ok || due != 240000000000000 {
		t.Errorf("Due = %d, %v", due, ok)
	}
	s.Lines = append(s.Lines, api.Line{Item: 16, Qty: 1})
	if order.Valid(s) {
		t.Error("17 lines are valid")
	}
}

// Numbers far out of their bounds must not come back into them by wrapping round.
func TestP8_1NothingWrapsRound(t *testing.T) {
	for _, l := range []api.Line{{Price: 1 << 32, Qty: 1 << 32}, {Price: 1, Qty: math.MinInt}, {Price: math.MaxInt, Qty: math.MaxInt}, {Item: math.MinInt, Qty: 1}} {
		for _, status := range []api.Status{api.Open, api.Paid, api.Sent, api.Cancelled} {
			s := api.State{Order: 1, Status: status, Lines: []api.Line{l}, Paid: l.Qty * l.Price, Tax: 10000}
			if order.Valid(s) {
				t.Errorf("Valid(%#v)", s)
			}
		}
	}
}

func TestP8_1ValidAtAllEdges(t *testing.T) {
	r := rand.New(rand.NewSource(81))
	for _, way := range ways {
		for range 40 {
			for _, s := range edges(some(r, way[0], way[1])) {
				right := rightState(s)
				if order.Valid(s) != right {
					t.Fatalf("Valid(%#v) is not %v", s, right)
				}
				due, ok := order.Due(s)
				if ok != right || !ok && due != 0 || ok && due != owed(s) {
					t.Fatalf("Due(%#v) = %d, %v", s, due, ok)
				}
			}
		}
	}
}

func TestP8_1Due(t *testing.T) {
	for _, x := range []struct {
		s    api.State
		want int
	}{
		{order.Empty(7), 0},
		{begun(), 1208},
		{full(), 1208},
		{put(begun(), func(s *api.State) { s.Tax = 0 }), 1099},
		{put(begun(), func(s *api.State) { s.Tax = 9 }), 1099},    // 0.98 of tax: cut
		{put(begun(), func(s *api.State) { s.Tax = 10 }), 1100},   // 1.09
		{put(begun(), func(s *api.State) { s.Lines = nil }), 0},   // nothing ordered
		{put(begun(), func(s *api.State) { s.Tax = 5000 }), 1648}, // 549.5
	} {
		if due, ok := order.Due(x.s); !ok || due != x.want {
			t.Errorf("Due(%#v) = %d, %v, want %d", x.s, due, ok, x.want)
		}
	}
	if due, ok := order.Due(put(begun(), func(s *api.State) { s.Order = 0 })); ok || due != 0 {
		t.Errorf("Due of a state that is not valid = %d, %v", due, ok)
	}
}

func TestP8_2Reasons(t *testing.T) {
	stocked := put(begun(), func(s *api.State) { s.Lines[1].Qty = 99999 })
	crowded := api.State{Order: 7, Status: api.Open}
	for i := range 16 {
		crowded.Lines = append(crowded.Lines, api.Line{Item: 2 * i, Price: 5, Qty: 1})
	}
	part := put(begun(), func(s *api.State) { s.Paid = 8 })
	begunToShip := put(full(), func(s *api.State) { s.Lines[1].Shipped = 1 })
	heldShipped := put(begunToShip, func(s *api.State) { s.Status, s.Prior = api.Held, api.Paid })
	for _, x := range []struct {
		name string
		s    api.State
		e    api.Event
		want api.Reason
	}{
		{"of order 0", order.Empty(0), placed, api.Broken},
		{"no right event", order.Empty(7), api.Event{Order: 7}, api.Broken},
		{"an event of no right field", begun(), event(api.Add, 3, 10001, 500), api.Broken},
		{"a quantity below 0", begun(), event(api.Add, 3, -1, 500), api.Broken},
		{"the last event", put(begun(), func(s *api.State) { s.Events = 1<<40 - 1 }), added3, api.Fine},
		{"behind the last event", put(begun(), func(s *api.State) { s.Events = 1 << 40 }), added3, api.Broken},
		{"Place 8", order.Empty(7), api.Event{Kind: api.Place, Order: 8}, api.Foreign},
		{"Add first", order.Empty(7), added3, api.Unknown},
		{"Place", order.Empty(7), placed, api.Fine},
		{"Place again", begun(), placed, api.Again},
		{"Add of a paid one", full(), added3, api.Wrong},
		{"Add of one paid in part", part, added3, api.Wrong},
		{"Drop of one paid in part", part, event(api.Drop, 3, 1, 0), api.Wrong},
		{"Pay of one paid in part", part, event(api.Pay, 0, 0, 1200), api.Fine},
		{"Pay of one paid in part, more", part, event(api.Pay, 0, 0, 1201), api.TooMuch},
		{"Cancel of one begun to ship", begunToShip, event(api.Cancel, 0, 0, 0), api.Wrong},
		{"Cancel of a held one begun to ship", heldShipped, event(api.Cancel, 0, 0, 0), api.Wrong},
		{"Cancel of a paid one", full(), event(api.Cancel, 0, 0, 0), api.Fine},
		{"Ship of an open one", begun(), sent3, api.Wrong},
		{"Add of nothing", begun(), event(api.Add, 4, 0, 1), api.Nothing},
		{"Add of nothing at another price", begun(), event(api.Add, 3, 0, 1), api.Nothing},
		{"Drop of nothing, no line", begun(), event(api.Drop, 9, 0, 0), api.Nothing},
		{"Ship of nothing, no line", full(), event(api.Ship, 9, 0, 0), api.Nothing},
		{"Pay of nothing", begun(), event(api.Pay, 3, 3, 0), api.Nothing},
		{"Refund of nothing", full(), event(api.Refund, 3, 3, 0), api.Nothing},
		{"Drop without a line", begun(), event(api.Drop, 2, 1, 500), api.Missing},
		{"Ship without a line", full(), event(api.Ship, 4, 1, 500), api.Missing},
		{"Add at another price", begun(), event(api.Add, 3, 1, 501), api.Clash},
		{"Add at another price, too much", stocked, event(api.Add, 3, 2, 501), api.Clash},
		{"Add of a line too many", crowded, event(api.Add, 3, 1, 5), api.TooMany},
		{"Add of a line too many behind all", crowded, event(api.Add, 31, 10000, 5), api.TooMany},
		{"Add to one of all lines", crowded, event(api.Add, 30, 1, 5), api.Fine},
		{"Add up to the stock", stocked, event(api.Add, 3, 1, 500), api.Fine},
		{"Add above the stock", stocked, event(api.Add, 3, 2, 500), api.TooMuch},
		{"Drop of all", begun(), event(api.Drop, 3, 2, 77), api.Fine},
		{"Drop of more", begun(), event(api.Drop, 3, 3, 500), api.TooMuch},
		{"Ship of all", full(), event(api.Ship, 3, 2, 77), api.Fine},
		{"Ship of more", full(), event(api.Ship, 3, 3, 500), api.TooMuch},
		{"Ship of the rest", begunToShip, event(api.Ship, 3, 1, 0), api.Fine},
		{"Ship of more than the rest", begunToShip, event(api.Ship, 3, 2, 0), api.TooMuch},
		{"Pay of all", begun(), payment, api.Fine},
		{"Pay of more", begun(), event(api.Pay, 0, 0, 1209), api.TooMuch},
		{"Refund of all", full(), event(api.Refund, 0, 0, 1208), api.Fine},
		{"Refund of more", full(), event(api.Refund, 0, 0, 1209), api.TooMuch},
	} {
		if why := order.Judge(x.s, x.e); why != x.want {
			t.Errorf("%s: Judge = %d, want %d", x.name, why, x.want)
		}
	}
}

// Of several reasons the answer is the one that the chapter names first.
func TestP8_2OrderOfReasons(t *testing.T) {
	wrongAll := api.Event{Kind: api.Drop, Order: 8, Item: 9}
	for _, x := range []struct {
		name string
		s    api.State
		e    api.Event
		want api.Reason
	}{
		{"Broken ahead of Foreign", order.Empty(0), wrongAll, api.Broken},
		{"Foreign ahead of Unknown", order.Empty(7), wrongAll, api.Foreign},
		{"Unknown ahead of Wrong and Nothing", order.Empty(8), wrongAll, api.Unknown},
		{"Foreign ahead of Again", begun(), api.Event{Kind: api.Place, Order: 8}, api.Foreign},
		{"Wrong ahead of Nothing", full(), event(api.Drop, 9, 0, 0), api.Wrong},
		{"Wrong ahead of Missing", full(), event(api.Drop, 9, 1, 0), api.Wrong},
		{"Broken ahead of all, at the last event", put(begun(), func(s *api.State) { s.Events = 1 << 40 }), wrongAll, api.Broken},
	} {
		if why := order.Judge(x.s, x.e); why != x.want {
			t.Errorf("%s: Judge = %d, want %d", x.name, why, x.want)
		}
	}
}

// Each kind at each status, as the chapter lists them.
func TestP8_2EachKindAtEachStatus(t *testing.T) {
	r := rand.New(rand.NewSource(82))
	for _, way := range ways {
		for range 200 {
			s := some(r, way[0], way[1])
			s.Events = s.Refused
			if s.Events == 1<<40 {
				continue
			}
			for k := api.Place; k <= api.Clear; k++ {
				e := api.Event{Kind: k, Order: s.Order}
				if got, want := order.Judge(s, e), reason(s, e); got != want {
					t.Fatalf("Judge(%#v, %#v) = %d, want %d", s, e, got, want)
				}
			}
		}
	}
}

func TestP8_2And3ByTheLetter(t *testing.T) {
	r := rand.New(rand.NewSource(83))
	seen := map[api.Reason]int{}
	for range 60000 {
		s := anyState(r)
		e := anyEvent(r, s)
		hold(t, s, e)
		seen[reason(s, e)]++
	}
	for why := api.Fine; why <= api.TooMuch; why++ {
		if seen[why] < 20 {
			t.Errorf("the reason %d has come %d times only", why, seen[why])
		}
	}
}

// hold holds Judge and Apply against the chapter, and P8.5.
func hold(t *testing.T, s api.State, e api.Event) {
	t.Helper()
	why, want := reason(s, e), after(s, e)
	if got := order.Judge(s, e); got != why {
		t.Fatalf("Judge(%#v, %#v) = %d, want %d", s, e, got, why)
	}
	got, also := order.Apply(s, e)
	if also != why || !same(got, want) {
		t.Fatalf("Apply(%#v, %#v) = %#v, %d, want %#v, %d", s, e, got, also, want, why)
	}
	if rightState(s) != order.Valid(got) || rightState(s) && !rightState(got) {
		t.Fatalf("Apply(%#v, %#v) = %#v: it is valid, or was, and the other not", s, e, got)
	}
}

func TestP8_2And3StatesAtTheEdges(t *testing.T) {
	r := rand.New(rand.NewSource(84))
	for _, way := range ways {
		for range 10 {
			for _, s := range edges(some(r, way[0], way[1])) {
				hold(t, s, anyEvent(r, put(s, func(s *api.State) {
					s.Lines = slices.DeleteFunc(s.Lines, func(l api.Line) bool {
						return !rightState(api.State{Order: 1, Status: api.Cancelled, Lines: []api.Line{l}})
					})
				})))
			}
		}
	}
}

func TestP8_3EachKind(t *testing.T) {
	ann := func(e api.Event, stamp int) api.Event {
		e.Who, e.Stamp, e.Note = "ann", stamp, "a note"
		return e
	}
	marked := put(begun(), func(s *api.State) { s.Who, s.Stamp = "bob", 5 })
	for _, x := range []struct {
		name string
		s    api.State
		e    api.Event
		want api.State
	}{
		{"Place", put(order.Empty(7), func(s *api.State) { s.Events, s.Refused = 2, 2 }), ann(api.Event{Kind: api.Place, Order: 7, Cur: 3, Tax: 12, Item: 4, Qty: 4, Price: 4}, 9),
			api.State{Order: 7, Status: api.Open, Cur: 3, Tax: 12, Events: 3, Refused: 2, Stamp: 9, Who: "ann"}},
		{"Add to a line", begun(), event(api.Add, 3, 5, 500), put(begun(), func(s *api.State) { s.Events, s.Lines[1].Qty = 4, 7 })},
		{"Add of the first line", begun(), event(api.Add, 0, 5, 6), put(begun(), func(s *api.State) {
			s.Events, s.Lines = 4, slices.Insert(s.Lines, 0, api.Line{Item: 0, Price: 6, Qty: 5})
		})},
		{"Add of a line between", begun(), event(api.Add, 2, 5, 0), put(begun(), func(s *api.State) {
			s.Events, s.Lines = 4, slices.Insert(s.Lines, 1, api.Line{Item: 2, Price: 0, Qty: 5})
		})},
		{"Add of the last line", begun(), event(api.Add, 65535, 1, 6), put(begun(), func(s *api.State) {
			s.Events, s.Lines = 4, append(s.Lines, api.Line{Item: 65535, Price: 6, Qty: 1})
		})},
		{"what Add tells of currency and tax doesn't count", begun(), api.Event{Kind: api.Add, Order: 7, Item: 3, Qty: 1, Price: 500, Cur: 2, Tax: 3}, put(begun(), func(s *api.State) { s.Events, s.Lines[1].Qty = 4, 3 })},
		{"Drop of some", begun(), event(api.Drop, 3, 1, 9), put(begun(), func(s *api.State) { s.Events, s.Lines[1].Qty = 4, 1 })},
		{"Drop of a line", begun(), event(api.Drop, 1, 1, 9), put(begun(), func(s *api.State) { s.Events, s.Lines = 4, s.Lines[1:] })},
		{"Pay of some", begun(), event(api.Pay, 0, 0, 1207), put(begun(), func(s *api.State) { s.Events, s.Paid = 4, 1207 })},
		{"Pay of all", begun(), payment, full()},
		{"Ship of some", full(), event(api.Ship, 3, 1, 0), put(full(), func(s *api.State) { s.Events, s.Lines[1].Shipped = 5, 1 })},
		{"Ship of the last", put(full(), func(s *api.State) { s.Lines[0].Shipped, s.Lines[1].Shipped = 1, 1 }), event(api.Ship, 3, 1, 0), put(full(), func(s *api.State) {
			s.Status, s.Events, s.Lines[0].Shipped, s.Lines[1].Shipped = api.Sent, 5, 1, 2
		})},
		{"Clear", put(full(), func(s *api.State) { s.Lines[1].Shipped = 1 }), event(api.Clear, 9, 9, 9), put(full(), func(s *api.State) {
			s.Status, s.Events, s.Lines[0].Shipped, s.Lines[1].Shipped = api.Sent, 5, 1, 2
		})},
		{"Refund", put(full(), func(s *api.State) { s.Refunded = 8 }), event(api.Refund, 0, 0, 1200), put(full(), func(s *api.State) { s.Events, s.Refunded = 5, 1208 })},
		{"Cancel", begun(), event(api.Cancel, 0, 0, 0), put(begun(), func(s *api.State) { s.Status, s.Events = api.Cancelled, 4 })},
		{"Cancel of a held one", put(full(), func(s *api.State) { s.Status, s.Prior = api.Held, api.Paid }), event(api.Cancel, 0, 0, 0), put(full(), func(s *api.State) { s.Status, s.Events = api.Cancelled, 5 })},
		{"Hold", full(), event(api.Hold, 0, 0, 0), put(full(), func(s *api.State) { s.Status, s.Prior, s.Events = api.Held, api.Paid, 5 })},
		{"Release", put(full(), func(s *api.State) { s.Status, s.Prior = api.Held, api.Paid }), event(api.Release, 0, 0, 0), put(full(), func(s *api.State) { s.Events = 5 })},
		{"an earlier stamp, a name", marked, ann(event(api.Hold, 0, 0, 0), 4), put(marked, func(s *api.State) { s.Status, s.Prior, s.Events, s.Who = api.Held, api.Open, 4, "ann" })},
		{"a later stamp, no name", marked, api.Event{Kind: api.Cancel, Order: 7, Stamp: 6}, put(marked, func(s *api.State) { s.Status, s.Events, s.Stamp = api.Cancelled, 4, 6 })},
		{"refused", marked, ann(event(api.Ship, 3, 1, 0), 99), put(marked, func(s *api.State) { s.Events, s.Refused = 4, 1 })},
		{"refused, unknown", order.Empty(7), ann(added3, 99), api.State{Order: 7, Events: 1, Refused: 1}},
		{"of another order", marked, api.Event{Kind: api.Cancel, Order: 8, Who: "ann", Stamp: 99}, marked},
		{"no right event", marked, api.Event{Kind: 11, Order: 7}, marked},
		{"no valid state", api.State{Order: -1, Lines: []api.Line{{Qty: -5}}, Who: "NOBODY"}, placed, api.State{Order: -1, Lines: []api.Line{{Qty: -5}}, Who: "NOBODY"}},
		{"behind the last event", put(begun(), func(s *api.State) { s.Events = 1 << 40 }), added3, put(begun(), func(s *api.State) { s.Events = 1 << 40 })},
	} {
		s, why := order.Apply(x.s, x.e)
		if !same(s, x.want) || why != reason(x.s, x.e) {
			t.Errorf("%s: Apply = %#v, %d, want %#v", x.name, s, why, x.want)
		}
	}
}

// walk is some events of an order's life, most of them such as it has a use for.
func walk(r *rand.Rand, s api.State, n int) []api.Event {
	var es []api.Event
	for range n {
		e := anyEvent(r, s)
		if uses := order.Allowed(s); len(uses) > 0 && r.Intn(4) > 0 {
			for !slices.Contains(uses, e.Kind) || e.Kind == api.Cancel && r.Intn(8) > 0 {
				e = anyEvent(r, s)
			}
		}
		es = append(es, e)
		s = after(s, e)
	}
	return es
}

func TestP8_4FoldIsApplyOfEach(t *testing.T) {
	r := rand.New(rand.NewSource(85))
	ends := map[api.Status]int{}
	for range 1500 {
		s := order.Empty(1 + r.Intn(3))
		es := walk(r, s, r.Intn(40))
		want := s
		for _, e := range es {
			hold(t, want, e)
			want = after(want, e)
		}
		if got := order.Fold(s, es); !same(got, want) {
			t.Fatalf("Fold(%#v, %#v) = %#v, want %#v", s, es, got, want)
		}
		ends[want.Status]++
	}
	for status := api.None; status <= api.Cancelled; status++ {
		if ends[status] == 0 {
			t.Errorf("no walk has ended at %d: %v", status, ends)
		}
	}
}

func TestP8_4FoldInPieces(t *testing.T) {
	r := rand.New(rand.NewSource(86))
	for range 500 {
		s := anyState(r)
		es := walk(r, s, 20)
		at := r.Intn(21)
		if got := order.Fold(order.Fold(s, es[:at]), es[at:]); !same(got, order.Fold(s, es)) {
			t.Fatalf("Fold(%#v, %#v) in two at %d = %#v", s, es, at, got)
		}
	}
}

func TestP8_4FoldOfNoEvents(t *testing.T) {
	for _, s := range []api.State{{}, begun(), full(), {Order: -5, Paid: -1, Lines: []api.Line{{Item: 9}, {Item: 1}}, Who: "ANY"}} {
		for _, es := range [][]api.Event{nil, {}} {
			if got := order.Fold(s, es); !same(got, s) {
				t.Errorf("Fold(%#v) = %#v", s, got)
			}
		}
	}
}

func TestP8_4FoldOfWhatIsBroken(t *testing.T) {
	broken := put(begun(), func(s *api.State) { s.Lines[0].Qty = 0 })
	if got := order.Fold(broken, []api.Event{added3, placed, payment}); !same(got, broken) {
		t.Errorf("Fold = %#v", got)
	}
	if got := order.Fold(begun(), []api.Event{{}, {Kind: api.Pay, Order: 8, Price: 1}, {Kind: api.Pay, Order: 7, Price: -1}}); !same(got, begun()) {
		t.Errorf("Fold = %#v", got)
	}
	late := put(begun(), func(s *api.State) { s.Events = 1<<40 - 1 })
	want := put(late, func(s *api.State) { s.Events, s.Lines[1].Qty = 1<<40, 4 })
	if got := order.Fold(late, []api.Event{added3, added3, payment}); !same(got, want) {
		t.Errorf("Fold = %#v", got)
	}
}

// A list of lines far too long is seen as such at once, at each event.
func TestP8_4FoldOfVeryManyLines(t *testing.T) {
	s := api.State{Order: 7, Status: api.Open, Lines: make([]api.Line, 1<<20)}
	if got := order.Fold(s, make([]api.Event, 1<<18)); len(got.Lines) != 1<<20 {
		t.Errorf("Fold has %d lines", len(got.Lines))
	}
}

func TestP8_4Examples(t *testing.T) {
	s := order.Fold(order.Empty(7), []api.Event{placed, added3, added1})
	if !same(s, begun()) {
		t.Fatalf("the first example: %#v", s)
	}
	if parts, ok := order.Parts(s); !ok || !slices.Equal(parts, []int{109, 1099}) {
		t.Errorf("Parts = %v, %v", parts, ok)
	}
	refund8, refundMore := event(api.Refund, 0, 0, 8), event(api.Refund, 0, 0, 1201)
	for i, x := range []struct {
		e      api.Event
		status api.Status
		why    api.Reason
	}{
		{payment, api.Paid, api.Fine}, {sent3, api.Paid, api.Fine}, {sent1, api.Sent, api.Fine},
		{refund8, api.Sent, api.Fine}, {refundMore, api.Sent, api.TooMuch},
	} {
		var why api.Reason
		if s, why = order.Apply(s, x.e); why != x.why || s.Status != x.status {
			t.Errorf("the second example, event %d: %d, status %d", i, why, s.Status)
		}
	}
	if s.Refunded != 8 || s.Events != 8 || s.Refused != 1 {
		t.Errorf("the second example: %#v", s)
	}
}

func TestP8_5ValidStaysValid(t *testing.T) {
	r := rand.New(rand.NewSource(87))
	for range 3000 {
		s := anyState(r)
		for _, e := range walk(r, s, 30) {
			s, _ = order.Apply(s, e)
			if !order.Valid(s) || !rightState(s) {
				t.Fatalf("behind %#v: %#v", e, s)
			}
		}
	}
}

func TestP8_6Allowed(t *testing.T) {
	shipped := put(full(), func(s *api.State) { s.Lines[1].Shipped = 1 })
	for _, x := range []struct {
		name string
		s    api.State
		want []api.Kind
	}{
		{"none", order.Empty(7), []api.Kind{api.Place}},
		{"open", begun(), []api.Kind{api.Add, api.Pay, api.Cancel, api.Drop, api.Hold}},
		{"open, without lines", put(begun(), func(s *api.State) { s.Lines = nil }), []api.Kind{api.Add, api.Pay, api.Cancel, api.Drop, api.Hold}},
		{"open, paid in part", put(begun(), func(s *api.State) { s.Paid = 1 }), []api.Kind{api.Pay, api.Cancel, api.Hold}},
		{"held", put(begun(), func(s *api.State) { s.Status, s.Prior = api.Held, api.Open }), []api.Kind{api.Cancel, api.Release}},
		{"held, shipped", put(shipped, func(s *api.State) { s.Status, s.Prior = api.Held, api.Paid }), []api.Kind{api.Release}},
		{"paid", full(), []api.Kind{api.Ship, api.Cancel, api.Refund, api.Hold, api.Clear}},
		{"paid, shipped", shipped, []api.Kind{api.Ship, api.Refund, api.Hold, api.Clear}},
		{"sent", put(full(), func(s *api.State) { s.Status, s.Lines[0].Shipped, s.Lines[1].Shipped = api.Sent, 1, 2 }), []api.Kind{api.Refund}},
		{"cancelled", put(begun(), func(s *api.State) { s.Status = api.Cancelled }), []api.Kind{api.Refund}},
		{"behind the last event", put(begun(), func(s *api.State) { s.Events = 1 << 40 }), []api.Kind{api.Add, api.Pay, api.Cancel, api.Drop, api.Hold}},
		{"not valid", order.Empty(0), nil},
		{"not valid, open", put(begun(), func(s *api.State) { s.Paid = 1208 }), nil},
	} {
		if got := order.Allowed(x.s); !slices.Equal(got, x.want) {
			t.Errorf("%s: Allowed = %v, want %v", x.name, got, x.want)
		}
	}
}

func TestP8_6AllowedIsWhatJudgeLetsPass(t *testing.T) {
	r := rand.New(rand.NewSource(88))
	for _, way := range ways {
		for range 20 {
			for _, s := range edges(some(r, way[0], way[1])) {
				var want []api.Kind
				for k := api.Place; k <= api.Clear && rightState(s); k++ {
					if useOf(s, k) {
						want = append(want, k)
					}
				}
				if got := order.Allowed(s); !slices.Equal(got, want) {
					t.Fatalf("Allowed(%#v) = %v, want %v", s, got, want)
				}
			}
		}
	}
}

// dealt is Parts by the letter: the whole parts, and what is left to the greatest rests, the first ahead.
func dealt(s api.State) []int {
	sum, parts := 0, []int{}
	for _, l := range s.Lines {
		sum += l.Qty * l.Price
	}
	total, rests := owed(s), []int{}
	left := total
	for _, l := range s.Lines {
		// total is sum and a tax: the tax's part is what may be split, sum's part is the weight itself.
		weight := l.Qty * l.Price
		tax := total - sum
		parts = append(parts, weight+int(mulDiv(tax, weight, sum)))
		rests = append(rests, mulMod(tax, weight, sum))
		left -= parts[len(parts)-1]
	}
	for ; left > 0; left-- {
		best := 0
		for i := range rests {
			if rests[i] > rests[best] {
				best = i
			}
		}
		parts[best]++
		rests[best] = -1
	}
	return parts
}

func TestP8_7Parts(t *testing.T) {
	for _, x := range []struct {
		name string
		s    api.State
		want []int
	}{
		{"the example", begun(), []int{109, 1099}},
		{"no tax", put(begun(), func(s *api.State) { s.Tax = 0 }), []int{99, 1000}},
		{"a line for nothing", put(begun(), func(s *api.State) { s.Lines[0].Price = 0 }), []int{0, 1100}},
		{"equal rests", api.State{Order: 1, Status: api.Open, Tax: 5000, Lines: []api.Line{{Item: 1, Price: 1, Qty: 1}, {Item: 2, Price: 1, Qty: 1}}}, []int{2, 1}},
		{"the last event", put(begun(), func(s *api.State) { s.Events = 1 << 40 }), []int{109, 1099}},
	} {
		if got, ok := order.Parts(x.s); !ok || !slices.Equal(got, x.want) {
			t.Errorf("%s: Parts = %v, %v, want %v", x.name, got, ok, x.want)
		}
	}
	for _, s := range []api.State{
		{}, order.Empty(7), put(begun(), func(s *api.State) { s.Lines = nil }), put(begun(), func(s *api.State) { s.Order = 0 }),
		put(begun(), func(s *api.State) { s.Lines[0].Price, s.Lines[1].Price = 0, 0 }), put(begun(), func(s *api.State) { s.Paid = 1208 }),
		{Order: 1, Lines: []api.Line{{Qty: 1, Price: 1}}},
	} {
		if got, ok := order.Parts(s); ok || len(got) > 0 {
			t.Errorf("Parts(%#v) = %v, %v", s, got, ok)
		}
	}
}

func TestP8_7PartsByTheLetter(t *testing.T) {
	r := rand.New(rand.NewSource(89))
	for range 20000 {
		s := anyState(r)
		sum := 0
		for _, l := range s.Lines {
			sum += l.Qty * l.Price
		}
		got, ok := order.Parts(s)
		if sum == 0 {
			if ok || len(got) > 0 {
				t.Fatalf("Parts(%#v) = %v, %v", s, got, ok)
			}
			continue
		}
		if want := dealt(s); !ok || !slices.Equal(got, want) {
			t.Fatalf("Parts(%#v) = %v, %v, want %v", s, got, ok, want)
		}
	}
}

// roomy is s with room behind its lines, and that room.
func roomy(s api.State) (api.State, []api.Line) {
	room := append(slices.Clone(s.Lines), api.Line{Item: 71}, api.Line{Item: 72}, api.Line{Item: 73})
	s.Lines = room[:len(s.Lines)]
	return s, room
}

func TestRule4ArgumentsStay(t *testing.T) {
	r := rand.New(rand.NewSource(90))
	for range 5000 {
		s, room := roomy(anyState(r))
		kept := slices.Clone(room)
		es := walk(r, s, 10)
		given := slices.Clone(es)
		got, _ := order.Apply(s, es[0])
		folded := order.Fold(s, es)
		order.Valid(s)
		order.Due(s)
		order.Judge(s, es[0])
		parts, _ := order.Parts(s)
		kinds := order.Allowed(s)
		if !slices.Equal(room, kept) || !slices.Equal(es, given) {
			t.Fatalf("the lines have become %v, they were %v", room, kept)
		}
		wantGot, wantFolded := after(s, es[0]), order.Fold(s, es)
		for i := range room {
			room[i] = api.Line{Item: -1}
		}
		clear(es)
		if !same(got, wantGot) || !same(folded, wantFolded) {
			t.Fatalf("an answer shares its lines with an argument")
		}
		clear(parts[:cap(parts)])
		clear(kinds[:cap(kinds)])
	}
}

func TestRule4AnswersAreNewMemory(t *testing.T) {
	refused := []api.Event{{}, {Kind: api.Place, Order: 8}, {Kind: api.Place, Order: 7}, {Kind: api.Pay, Order: 7, Price: 1}, {Kind: api.Hold, Order: 7}}
	for _, e := range refused {
		s, room := roomy(begun())
		kept := slices.Clone(room)
		for _, got := range []api.State{first(order.Apply(s, e)), order.Fold(s, []api.Event{e}), order.Fold(s, nil)} {
			all := got.Lines[:cap(got.Lines)]
			for i := range all {
				all[i] = api.Line{Item: -1}
			}
			if !slices.Equal(room, kept) {
				t.Fatalf("behind %#v the answer shares its lines with the argument", e)
			}
		}
	}
	clear(order.Allowed(begun()))
	if got := order.Allowed(begun()); !slices.Equal(got, []api.Kind{api.Add, api.Pay, api.Cancel, api.Drop, api.Hold}) {
		t.Errorf("Allowed = %v behind a change of its answer", got)
	}
}

func first(s api.State, _ api.Reason) api.State { return s }

// No call panics, whatever it is given.
func TestRule1WhateverIsGiven(t *testing.T) {
	r := rand.New(rand.NewSource(91))
	any := func() int { return outer[r.Intn(len(outer))] }
	for range 30000 {
		s := api.State{Order: any(), Status: api.Status(any()), Prior: api.Status(any()), Cur: any(), Tax: any(), Paid: any(), Refunded: any(), Events: any(), Refused: any(), Stamp: any(), Who: string(rune(r.Intn(200)))}
		for range r.Intn(20) {
			s.Lines = append(s.Lines, api.Line{Item: any(), Price: any(), Qty: any(), Shipped: any()})
		}
		e := api.Event{Kind: api.Kind(any()), Order: any(), Item: any(), Qty: any(), Price: any(), Cur: any(), Tax: any(), Stamp: any()}
		hold(t, s, e)
		base := anyState(r)
		if e.Order = base.Order; schema.Check(5, e) != api.OK {
			hold(t, base, e)
		}
		if order.Valid(s) != rightState(s) {
			t.Fatalf("Valid(%#v)", s)
		}
		order.Parts(s)
		order.Allowed(s)
		order.Due(s)
	}
}
