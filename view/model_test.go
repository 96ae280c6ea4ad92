package view_test

import (
	"math/rand"
	"slices"
	"strings"

	"daybook/api"
	"daybook/order"
	"daybook/view"
)

// The model: sums, states and ranks by the letter of the chapter, over plain lists.

// isBook tells whether states are a book's.
func isBook(ss []api.State) bool {
	for i, s := range ss {
		if !order.Valid(s) || s.Events < 1 || i > 0 && s.Order <= ss[i-1].Order {
			return false
		}
	}
	return true
}

func modelOf(ss []api.State) api.View {
	if !isBook(ss) {
		return api.View{}
	}
	sum := func(of func(s api.State) int) int {
		n := 0
		for _, s := range ss {
			n += of(s)
		}
		return n
	}
	lines := func(of func(l api.Line) int) int {
		return sum(func(s api.State) int {
			n := 0
			for _, l := range s.Lines {
				n += of(l)
			}
			return n
		})
	}
	v := api.View{
		Orders:   sum(func(s api.State) int { return 1 }),
		Events:   sum(func(s api.State) int { return s.Events }),
		Refused:  sum(func(s api.State) int { return s.Refused }),
		Paid:     sum(func(s api.State) int { return s.Paid }),
		Refunded: sum(func(s api.State) int { return s.Refunded }),
		Pieces:   lines(func(l api.Line) int { return l.Qty }),
		Shipped:  lines(func(l api.Line) int { return l.Shipped }),
	}
	for status := range v.ByStatus {
		v.ByStatus[status] = sum(func(s api.State) int {
			if int(s.Status) == status {
				return 1
			}
			return 0
		})
	}
	return v
}

// modelApply puts the state behind an event at its place in the list.
func modelApply(ss []api.State, e api.Event) ([]api.State, api.Reason) {
	at := 0
	for at < len(ss) && ss[at].Order < e.Order {
		at++
	}
	there := at < len(ss) && ss[at].Order == e.Order
	s := api.State{Order: e.Order}
	if there {
		s = ss[at]
	}
	s, why := order.Apply(s, e)
	if there {
		ss[at] = s
	} else if s.Events > 0 {
		ss = slices.Insert(ss, at, s)
	}
	return ss, why
}

// modelBest takes the greatest one out, again and again.
func modelBest(ss []api.State, n int, by view.By) []int {
	if !isBook(ss) || by < 0 || by > 3 {
		return nil
	}
	number := func(s api.State) int {
		pieces := 0
		for _, l := range s.Lines {
			pieces += l.Qty
		}
		return []int{s.Paid - s.Refunded, pieces, s.Events - s.Refused, s.Stamp}[by]
	}
	ss = slices.Clone(ss)
	var ids []int
	for ; n > 0 && len(ss) > 0; n-- {
		best := 0
		for i, s := range ss {
			if number(s) > number(ss[best]) {
				best = i
			}
		}
		ids = append(ids, ss[best].Order)
		ss = slices.Delete(ss, best, best+1)
	}
	return ids
}

func same(a, b api.State) bool {
	return slices.Equal(a.Lines, b.Lines) && a.Order == b.Order && a.Status == b.Status && a.Prior == b.Prior && a.Cur == b.Cur && a.Tax == b.Tax &&
		a.Paid == b.Paid && a.Refunded == b.Refunded && a.Events == b.Events && a.Refused == b.Refused && a.Stamp == b.Stamp && a.Who == b.Who
}

func sameAll(a, b []api.State) bool { return slices.EqualFunc(a, b, same) }

// clone shares nothing with what it is made of.
func clone(ss []api.State) []api.State {
	ss = slices.Clone(ss)
	for i := range ss {
		ss[i].Lines = slices.Clone(ss[i].Lines)
	}
	return ss
}

// each is states of all statuses, of the orders 1 to 9.
func each() []api.State {
	return []api.State{
		{Order: 1, Events: 4, Refused: 4},
		{Order: 2, Status: api.Open, Events: 1, Stamp: 90},
		{Order: 3, Status: api.Open, Tax: 5000, Paid: 7, Events: 5, Refused: 2, Who: "ann", Lines: []api.Line{{Item: 1, Price: 3, Qty: 2}, {Item: 4, Price: 1, Qty: 10}}},
		{Order: 4, Status: api.Held, Prior: api.Open, Events: 3, Stamp: 90, Lines: []api.Line{{Item: 0, Price: 0, Qty: 100}}},
		{Order: 5, Status: api.Held, Prior: api.Paid, Cur: 3, Paid: 60, Refunded: 50, Events: 30, Refused: 20, Stamp: 1, Lines: []api.Line{{Item: 9, Price: 10, Qty: 6, Shipped: 5}}},
		{Order: 6, Status: api.Paid, Paid: 10, Events: 9, Stamp: 1 << 40, Lines: []api.Line{{Item: 9, Price: 10, Qty: 1}}},
		{Order: 7, Status: api.Sent, Paid: 33, Refunded: 33, Events: 11, Refused: 1, Lines: []api.Line{{Item: 2, Price: 10, Qty: 3, Shipped: 3}, {Item: 3, Price: 3, Qty: 1, Shipped: 1}}},
		{Order: 8, Status: api.Cancelled, Paid: 5, Refunded: 1, Events: 12, Refused: 3, Lines: []api.Line{{Item: 2, Price: 10, Qty: 3}}},
		{Order: 9, Status: api.Cancelled, Events: 2},
	}
}

// greatest is the state with the greatest numbers.
func greatest(id int) api.State {
	s := api.State{Order: id, Status: api.Sent, Cur: 3, Tax: 5000, Events: 1 << 40, Refused: 1 << 39, Stamp: 1 << 40, Who: strings.Repeat("z", 16)}
	for i := range 16 {
		s.Lines = append(s.Lines, api.Line{Item: 65520 + i, Price: 100000000, Qty: 100000, Shipped: 100000})
	}
	s.Paid, s.Refunded = 240000000000000, 240000000000000
	return s
}

// wrong is lists of states that are no book's.
func wrong() map[string][]api.State {
	right := each()
	change := func(i int, do func(s *api.State)) []api.State {
		ss := each()
		do(&ss[i])
		return ss
	}
	return map[string][]api.State{
		"without events":       {{Order: 1}},
		"one without events":   append(each(), order.Empty(10)),
		"the same twice":       {right[0], right[0]},
		"falling":              {right[1], right[0]},
		"the last falls":       append(each(), right[3]),
		"order 0":              change(0, func(s *api.State) { s.Order = 0 }),
		"order too great":      change(8, func(s *api.State) { s.Order = api.MaxOrder + 1 }),
		"a status too great":   change(4, func(s *api.State) { s.Status = 6 }),
		"a status below 0":     change(4, func(s *api.State) { s.Status = -1 }),
		"not valid":            change(5, func(s *api.State) { s.Paid++ }),
		"too many are refused": change(5, func(s *api.State) { s.Refused = s.Events + 1 }),
		"a line of nothing":    change(3, func(s *api.State) { s.Lines[0].Qty = 0 }),
		"the zero state":       {{}},
	}
}

// anyEvents is events of few orders, most of them such as an order can take as it stands by then, some broken.
func anyEvents(r *rand.Rand, n int) []api.Event {
	var states [9]api.State
	for id := range states {
		states[id] = order.Empty(id)
	}
	var es []api.Event
	for range n {
		id := r.Intn(len(states))
		e := anyEvent(r, states[id])
		states[id], _ = order.Apply(states[id], e)
		switch r.Intn(20) {
		case 0:
			e.Order = []int{-1, 0, api.MaxOrder, api.MaxOrder + 1}[r.Intn(4)]
		case 1:
			e.Qty = -1
		case 2:
			e.Kind = []api.Kind{-1, api.NoKind, api.Clear + 1}[r.Intn(3)]
		}
		es = append(es, e)
	}
	return es
}

func anyEvent(r *rand.Rand, s api.State) api.Event {
	kinds := append(order.Allowed(s), api.Kind(1+r.Intn(10)))
	e := api.Event{Kind: kinds[r.Intn(len(kinds))], Order: s.Order, Item: r.Intn(3), Qty: r.Intn(4), Price: 100, Stamp: r.Intn(9), Who: []string{"", "ann", "bob"}[r.Intn(3)]}
	due, _ := order.Due(s)
	switch e.Kind {
	case api.Place:
		e.Cur, e.Tax = r.Intn(3), r.Intn(2)*1000
	case api.Pay:
		e.Price = due - s.Paid
	}
	return e
}

// someStates is a book's states, made by events.
func someStates(r *rand.Rand) []api.State {
	var ss []api.State
	for _, e := range anyEvents(r, r.Intn(80)) {
		ss, _ = modelApply(ss, e)
	}
	return ss
}
