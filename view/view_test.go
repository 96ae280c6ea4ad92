package view_test

import (
	"math"
	"math/rand"
	"slices"
	"testing"

	"daybook/api"
	"daybook/book"
	"daybook/view"
)

// The chapter's example, whole.
func TestP23Example(t *testing.T) {
	b := view.NewBoard(nil)
	if why := b.Apply(api.Event{Kind: api.Add, Order: 4}); why != api.Unknown {
		t.Errorf("Add of order 4: %d", why)
	}
	if why := b.Apply(api.Event{Kind: api.Place, Order: 5}); why != api.Fine {
		t.Errorf("Place of order 5: %d", why)
	}
	if v := b.View(); v != (api.View{Orders: 2, ByStatus: [6]int{1, 1, 0, 0, 0, 0}, Events: 2, Refused: 1}) {
		t.Errorf("View: %+v", v)
	}
	if got := view.Best(b.States(), 2, view.ByEvents); !slices.Equal(got, []int{5, 4}) {
		t.Errorf("by events: %v", got)
	}
	if got := view.Best(b.States(), 2, view.ByPaid); !slices.Equal(got, []int{4, 5}) {
		t.Errorf("by what is paid: %v", got)
	}
}

func TestP23_1Of(t *testing.T) {
	if !isBook(each()) {
		t.Fatal("the states are no book's")
	}
	want := api.View{Orders: 9, ByStatus: [6]int{1, 2, 2, 1, 1, 2}, Events: 77, Refused: 30, Paid: 115, Refunded: 84, Pieces: 126, Shipped: 9}
	if got := view.Of(each()); got != want || got != modelOf(each()) {
		t.Errorf("of each status: %+v", got)
	}
	for _, ss := range [][]api.State{nil, {}} {
		if got := view.Of(ss); got != (api.View{}) {
			t.Errorf("of none: %+v", got)
		}
	}
	for i, s := range each() {
		got := view.Of(each()[i : i+1])
		one := api.View{Orders: 1, Events: s.Events, Refused: s.Refused, Paid: s.Paid, Refunded: s.Refunded}
		one.ByStatus[s.Status] = 1
		one.Pieces, one.Shipped = []int{0, 0, 12, 100, 6, 1, 4, 3, 0}[i], []int{0, 0, 0, 0, 5, 0, 4, 0, 0}[i]
		if got != one {
			t.Errorf("of order %d: %+v, not %+v", s.Order, got, one)
		}
	}
}

func TestP23_1NoBooksStates(t *testing.T) {
	for what, ss := range wrong() {
		if got := view.Of(ss); got != (api.View{}) {
			t.Errorf("%s: %+v", what, got)
		}
	}
}

func TestP23_1ByTheLetter(t *testing.T) {
	r := rand.New(rand.NewSource(1))
	var seen api.View
	for range 2000 {
		ss := someStates(r)
		got := view.Of(ss)
		if got != modelOf(ss) {
			t.Fatalf("Of(%v) = %+v, not %+v", ss, got, modelOf(ss))
		}
		seen.Paid, seen.Refunded, seen.Shipped = seen.Paid+got.Paid, seen.Refunded+got.Refunded, seen.Shipped+got.Shipped
		for i, n := range got.ByStatus {
			seen.ByStatus[i] += n
		}
	}
	if seen.Paid == 0 || seen.Refunded == 0 || seen.Shipped == 0 || slices.Contains(seen.ByStatus[:], 0) {
		t.Errorf("not all was seen: %+v", seen)
	}
}

// The sums wrap as Go's ints do.
func TestP23_1TheSumsWrap(t *testing.T) {
	var ss []api.State
	for id := 1; id <= 40000; id++ {
		ss = append(ss, greatest(id))
	}
	if !isBook(ss) {
		t.Fatal("the states are no book's")
	}
	got := view.Of(ss)
	paid := 0
	for range ss {
		paid += 240000000000000
	}
	if got.Paid != paid || got.Refunded != paid || paid >= 0 {
		t.Errorf("Paid %d, Refunded %d, not %d", got.Paid, got.Refunded, paid)
	}
	if got.Events != 40000<<40 || got.Refused != 40000<<39 || got.Pieces != 40000*1600000 || got.Shipped != got.Pieces || got.ByStatus != [6]int{4: 40000} {
		t.Errorf("%+v", got)
	}
}

func TestP23_2NewBoard(t *testing.T) {
	for what, ss := range wrong() {
		if view.NewBoard(ss) != nil {
			t.Errorf("%s: there is a board", what)
		}
	}
	for _, ss := range [][]api.State{nil, {}, each(), each()[3:4]} {
		b := view.NewBoard(ss)
		if b == nil {
			t.Fatalf("no board of %v", ss)
		}
		if !sameAll(b.States(), ss) || b.View() != modelOf(ss) {
			t.Errorf("of %v: %v, %+v", ss, b.States(), b.View())
		}
	}
}

// Nothing of the states is kept: what becomes of them later doesn't show, and they don't change.
func TestP23_2NothingIsKept(t *testing.T) {
	ss := append(each(), greatest(77))[:9]
	for i := range ss {
		ss[i].Lines = append(ss[i].Lines, api.Line{Item: 70000})[:len(ss[i].Lines)]
	}
	room := func() []api.State {
		all := slices.Clone(ss[:10])
		for i := range all[:9] {
			all[i].Lines = all[i].Lines[:len(all[i].Lines)+1]
		}
		return clone(all)
	}
	before := room()
	b := view.NewBoard(ss)
	for id := range 10 {
		for _, kind := range []api.Kind{api.Release, api.Add, api.Ship, api.Drop, api.Clear} {
			b.Apply(api.Event{Kind: kind, Order: id, Item: 9, Qty: 1, Price: 10})
		}
	}
	view.Of(ss)
	view.Best(ss, 5, view.ByPieces)
	if !sameAll(room(), before) {
		t.Error("the states that were handed in have changed")
	}
	b = view.NewBoard(ss)
	for i := range ss {
		clear(ss[i].Lines)
	}
	clear(ss)
	if !sameAll(b.States(), each()) {
		t.Errorf("the board has changed: %v", b.States())
	}
}

func TestP23_3Apply(t *testing.T) {
	b := view.NewBoard(each())
	for _, x := range []struct {
		what  string
		e     api.Event
		why   api.Reason
		state api.State
	}{
		{"a new order", api.Event{Kind: api.Place, Order: 20, Tax: 7}, api.Fine, api.State{Order: 20, Status: api.Open, Tax: 7, Events: 1}},
		{"the same again", api.Event{Kind: api.Place, Order: 20}, api.Again, api.State{Order: 20, Status: api.Open, Tax: 7, Events: 2, Refused: 1}},
		{"an unknown one", api.Event{Kind: api.Pay, Order: 21, Price: 1}, api.Unknown, api.State{Order: 21, Events: 1, Refused: 1}},
		{"one known as unknown", api.Event{Kind: api.Place, Order: 1, Stamp: 3, Who: "bob"}, api.Fine, api.State{Order: 1, Status: api.Open, Events: 5, Refused: 4, Stamp: 3, Who: "bob"}},
		{"an old one", api.Event{Kind: api.Add, Order: 2, Item: 5, Qty: 3, Price: 4}, api.Fine, api.State{Order: 2, Status: api.Open, Events: 2, Stamp: 90, Lines: []api.Line{{Item: 5, Price: 4, Qty: 3}}}},
		{"one that goes no further", api.Event{Kind: api.Hold, Order: 9}, api.Wrong, api.State{Order: 9, Status: api.Cancelled, Events: 3, Refused: 1}},
		{"a broken event", api.Event{Kind: api.Place, Order: 9, Qty: -1}, api.Broken, api.State{Order: 9, Status: api.Cancelled, Events: 3, Refused: 1}},
		{"shipped whole", api.Event{Kind: api.Ship, Order: 6, Item: 9, Qty: 1}, api.Fine, api.State{Order: 6, Status: api.Sent, Paid: 10, Events: 10, Stamp: 1 << 40, Lines: []api.Line{{Item: 9, Price: 10, Qty: 1, Shipped: 1}}}},
		{"nothing to ship", api.Event{Kind: api.Ship, Order: 5, Item: 9, Qty: 1}, api.Wrong, api.State{Order: 5, Status: api.Held, Prior: api.Paid, Cur: 3, Paid: 60, Refunded: 50, Events: 31, Refused: 21, Stamp: 1, Lines: []api.Line{{Item: 9, Price: 10, Qty: 6, Shipped: 5}}}},
	} {
		want, _ := modelApply(b.States(), x.e)
		if why := b.Apply(x.e); why != x.why {
			t.Errorf("%s: %d, not %d", x.what, why, x.why)
		}
		got := b.States()
		if !sameAll(got, want) || !same(book.Pick(got, x.e.Order), x.state) || !book.Valid(got) || b.View() != modelOf(want) {
			t.Errorf("%s: %v", x.what, got)
		}
	}
}

// Of an order that has no state a broken event leaves none.
func TestP23_3WhatIsBrokenLeavesNothing(t *testing.T) {
	b := view.NewBoard(nil)
	for _, e := range []api.Event{{}, {Kind: api.NoKind, Order: 3}, {Kind: api.Place}, {Kind: api.Place, Order: -1}, {Kind: api.Place, Order: api.MaxOrder + 1}, {Kind: api.Place, Order: math.MinInt}, {Kind: api.Place, Order: 3, Who: "A"}, {Kind: api.Clear + 1, Order: 3}} {
		if why := b.Apply(e); why != api.Broken {
			t.Errorf("%v: %d", e, why)
		}
	}
	if ss := b.States(); len(ss) != 0 || b.View() != (api.View{}) {
		t.Errorf("%v stand there", ss)
	}
	for _, id := range []int{api.MaxOrder, 1} {
		if why := b.Apply(api.Event{Kind: api.Place, Order: id}); why != api.Fine {
			t.Errorf("order %d: %d", id, why)
		}
	}
	if !sameAll(b.States(), []api.State{{Order: 1, Status: api.Open, Events: 1}, {Order: api.MaxOrder, Status: api.Open, Events: 1}}) {
		t.Errorf("%v stand there", b.States())
	}
	full := api.State{Order: 8, Events: api.MaxSeq, Refused: api.MaxSeq}
	b = view.NewBoard([]api.State{full})
	if why := b.Apply(api.Event{Kind: api.Place, Order: 8}); why != api.Broken || !sameAll(b.States(), []api.State{full}) {
		t.Errorf("an order that takes no more: %d, %v", why, b.States())
	}
}

// Event by event the board has what book.Fold gives at once.
func TestP23_3IsFold(t *testing.T) {
	r := rand.New(rand.NewSource(3))
	reasons := map[api.Reason]int{}
	for range 400 {
		began, es := someStates(r), anyEvents(r, r.Intn(80))
		if r.Intn(4) == 0 {
			began = each()
		}
		b, other := view.NewBoard(began), view.NewBoard(nil)
		want := clone(began)
		for i, e := range es {
			var wanted api.Reason
			want, wanted = modelApply(want, e)
			why := b.Apply(e)
			if why != wanted {
				t.Fatalf("Apply(%v): %d, not %d", e, why, wanted)
			}
			reasons[why]++
			if i%7 == 0 && !sameAll(b.States(), book.Fold(began, es[:i+1])) {
				t.Fatalf("behind %d events: %v", i+1, b.States())
			}
		}
		got := b.States()
		if !sameAll(got, want) || !sameAll(got, book.Fold(began, es)) || b.View() != modelOf(want) || b.View() != view.Of(got) {
			t.Fatalf("of %v and %v: %v, %+v", began, es, got, b.View())
		}
		if len(other.States()) != 0 {
			t.Fatal("two boards meet")
		}
	}
	for _, why := range []api.Reason{api.Fine, api.Broken, api.Unknown, api.Again, api.Wrong, api.Nothing, api.Missing} {
		if reasons[why] < 20 {
			t.Errorf("the reason %d was answered %d times", why, reasons[why])
		}
	}
}

func TestP23_3ManyOrders(t *testing.T) {
	b := view.NewBoard(nil)
	var want []api.State
	for i := range 20000 {
		id := 1 + i*7919%20000
		if b.Apply(api.Event{Kind: api.Place, Order: id}) != api.Fine {
			t.Fatalf("order %d", id)
		}
		want = append(want, api.State{Order: i + 1, Status: api.Open, Events: 1})
	}
	if !sameAll(b.States(), want) || b.View() != (api.View{Orders: 20000, ByStatus: [6]int{1: 20000}, Events: 20000}) {
		t.Errorf("%d states, %+v", len(b.States()), b.View())
	}
}

func TestP23_3NoBoard(t *testing.T) {
	var b *view.Board
	for _, e := range []api.Event{{}, {Kind: api.Place, Order: 1}} {
		if why := b.Apply(e); why != api.Broken {
			t.Errorf("Apply: %d", why)
		}
	}
	if ss := b.States(); len(ss) != 0 {
		t.Errorf("States: %v", ss)
	}
	if v := b.View(); v != (api.View{}) {
		t.Errorf("View: %+v", v)
	}
}

// A board that was made by hand is an empty one.
func TestRule1TheZeroBoard(t *testing.T) {
	b := new(view.Board)
	if len(b.States()) != 0 || b.View() != (api.View{}) {
		t.Errorf("%v, %+v", b.States(), b.View())
	}
	if b.Apply(api.Event{}) != api.Broken || b.Apply(api.Event{Kind: api.Place, Order: 1}) != api.Fine || b.View().Orders != 1 {
		t.Errorf("%v, %+v", b.States(), b.View())
	}
}

func TestP23_4Best(t *testing.T) {
	for _, x := range []struct {
		by   view.By
		want []int
	}{
		{view.ByPaid, []int{5, 6, 3, 8, 1, 2, 4, 7, 9}},
		{view.ByPieces, []int{4, 3, 5, 7, 8, 6, 1, 2, 9}},
		{view.ByEvents, []int{5, 7, 6, 8, 3, 4, 9, 2, 1}},
		{view.ByStamp, []int{6, 2, 4, 5, 1, 3, 7, 8, 9}},
	} {
		for n := 1; n <= 12; n++ {
			got := view.Best(each(), n, x.by)
			if !slices.Equal(got, x.want[:min(n, 9)]) || !slices.Equal(got, modelBest(each(), n, x.by)) {
				t.Errorf("the best %d by %d: %v, not %v", n, x.by, got, x.want[:min(n, 9)])
			}
		}
		if got := view.Best(each(), math.MaxInt, x.by); !slices.Equal(got, x.want) {
			t.Errorf("all by %d: %v", x.by, got)
		}
		for _, n := range []int{0, -1, -9, math.MinInt} {
			if got := view.Best(each(), n, x.by); len(got) != 0 {
				t.Errorf("the best %d by %d: %v", n, x.by, got)
			}
		}
		for what, ss := range wrong() {
			if got := view.Best(ss, 3, x.by); len(got) != 0 {
				t.Errorf("%s: %v", what, got)
			}
		}
		if got := view.Best(nil, 3, x.by); len(got) != 0 {
			t.Errorf("of none: %v", got)
		}
	}
	for _, by := range []view.By{math.MinInt, -1, 4, 5, math.MaxInt} {
		if got := view.Best(each(), 3, by); len(got) != 0 {
			t.Errorf("by %d: %v", by, got)
		}
	}
	if view.ByPaid != 0 || view.ByPieces != 1 || view.ByEvents != 2 || view.ByStamp != 3 {
		t.Error("the rankings have other numbers")
	}
}

func TestP23_4ByTheLetter(t *testing.T) {
	r := rand.New(rand.NewSource(4))
	for range 1500 {
		ss := someStates(r)
		n, by := r.Intn(12)-1, view.By(r.Intn(4))
		if got, want := view.Best(ss, n, by), modelBest(ss, n, by); !slices.Equal(got, want) {
			t.Fatalf("Best(%v, %d, %d) = %v, not %v", ss, n, by, got, want)
		}
	}
}

// Of many equal ones the lesser Order comes first.
func TestP23_4ManyEqualOnes(t *testing.T) {
	var ss []api.State
	var want []int
	for id := 1; id <= 3000; id++ {
		ss = append(ss, api.State{Order: id, Status: api.Open, Events: 1 + id%3, Stamp: id % 2})
	}
	for rest := 1; rest >= 0; rest-- {
		for id := 1; id <= 3000; id++ {
			if id%2 == rest {
				want = append(want, id)
			}
		}
	}
	if got := view.Best(ss, 3000, view.ByStamp); !slices.Equal(got, want) {
		t.Errorf("%v", got)
	}
	if got := view.Best(ss, 7, view.ByPaid); !slices.Equal(got, []int{1, 2, 3, 4, 5, 6, 7}) {
		t.Errorf("%v", got)
	}
}

// scratch writes over all that an answer reaches, the room behind it too, one list after the other, and tells whether any other list of it has changed.
func scratch(ss []api.State) bool {
	kept := clone(ss)
	apart := true
	for i := range ss {
		lines := ss[i].Lines[:cap(ss[i].Lines)]
		for j := range lines {
			lines[j] = api.Line{Item: -1}
		}
		apart = apart && sameAll(ss[i+1:], kept[i+1:])
	}
	clear(ss[:cap(ss)])
	return apart
}

func TestRule4AnswersAreNewMemory(t *testing.T) {
	line := []api.Line{{Item: 4, Price: 2, Qty: 5}}
	began := []api.State{{Order: 1, Status: api.Open, Events: 2, Lines: line}, {Order: 2, Status: api.Open, Events: 2, Lines: line}} // two that share their lines
	b := view.NewBoard(began)
	for range 3 {
		want := clone(b.States())
		if !scratch(b.States()) {
			t.Error("two lists of one answer share memory")
		}
		if !sameAll(b.States(), want) || b.View() != view.Of(want) {
			t.Fatalf("an answer was changed, and the board with it: %v", b.States())
		}
		held := b.States()
		b.Apply(api.Event{Kind: api.Add, Order: 2, Item: 4, Qty: 1, Price: 2})
		if !sameAll(held, want) {
			t.Fatalf("the board goes on, and an old answer with it: %v", held)
		}
	}
	if !slices.Equal(line, []api.Line{{Item: 4, Price: 2, Qty: 5}}) {
		t.Errorf("the lines that were handed in are %v", line)
	}
	best := view.Best(each(), 4, view.ByPaid)
	clear(best[:cap(best)])
	if got := view.Best(each(), 4, view.ByPaid); !slices.Equal(got, []int{5, 6, 3, 8}) {
		t.Errorf("%v", got)
	}
}

// Whatever is given, the calls end.
func TestRule1WhateverIsGiven(t *testing.T) {
	r := rand.New(rand.NewSource(9))
	numbers := []int{math.MinInt, -1, 0, 1, 2, 3, 6, 1 << 40, math.MaxInt}
	any := func() int { return numbers[r.Intn(len(numbers))] }
	for range 3000 {
		ss := someStates(r)
		for range r.Intn(3) {
			ss = append(ss, api.State{Order: any(), Status: api.Status(any()), Prior: api.Status(any()), Events: any(), Refused: any(), Paid: any(), Stamp: any(), Lines: []api.Line{{Qty: any(), Price: any()}}})
		}
		by, n := view.By(any()), any()
		if got := view.Of(ss); got != modelOf(ss) {
			t.Fatalf("Of(%v) = %+v", ss, got)
		}
		if got := view.Best(ss, n, by); !slices.Equal(got, modelBest(ss, n, by)) {
			t.Fatalf("Best(%v, %d, %d) = %v", ss, n, by, got)
		}
		b := view.NewBoard(ss)
		if (b != nil) != isBook(ss) {
			t.Fatalf("NewBoard(%v) = %v", ss, b)
		}
		b.Apply(api.Event{Kind: api.Kind(any()), Order: any(), Item: any(), Qty: any(), Price: any(), Stamp: any()})
		if got := b.States(); !isBook(got) {
			t.Fatalf("%v", got)
		}
	}
}
