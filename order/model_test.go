package order_test

import (
	"math"
	"math/big"
	"math/rand"
	"slices"
	"strings"

	"daybook/api"
	"daybook/schema"
)

// The chapter by its letter: the tests hold the package against it.

// owed is what is due of a state within its bounds.
func owed(s api.State) int {
	sum := 0
	for _, l := range s.Lines {
		sum += l.Qty * l.Price
	}
	return sum + sum*s.Tax/10000
}

func allShipped(s api.State) bool {
	return !slices.ContainsFunc(s.Lines, func(l api.Line) bool { return l.Shipped != l.Qty })
}

func noneShipped(s api.State) bool {
	return !slices.ContainsFunc(s.Lines, func(l api.Line) bool { return l.Shipped != 0 })
}

// rightState is Valid by the letter.
func rightState(s api.State) bool {
	if s.Order < 1 || s.Order > 1<<40 || s.Status < 0 || s.Status > 5 || s.Cur < 0 || s.Cur > 3 || s.Tax < 0 || s.Tax > 5000 {
		return false
	}
	if s.Events < 0 || s.Events > 1<<40 || s.Refused < 0 || s.Refused > s.Events || s.Stamp < 0 || s.Stamp > 1<<40 {
		return false
	}
	if len(s.Who) > 16 || strings.Trim(s.Who, "abcdefghijklmnopqrstuvwxyz0123456789-") != "" || len(s.Lines) > 16 {
		return false
	}
	for i, l := range s.Lines {
		if i > 0 && s.Lines[i-1].Item >= l.Item || l.Item < 0 || l.Item > 65535 || l.Price < 0 || l.Price > 100000000 {
			return false
		}
		if l.Qty < 1 || l.Qty > 100000 || l.Shipped < 0 || l.Shipped > l.Qty {
			return false
		}
	}
	if s.Refunded < 0 || s.Refunded > s.Paid || s.Paid < 0 || s.Paid > owed(s) {
		return false
	}
	stands := s.Status
	if s.Status == api.Held {
		stands = s.Prior
		if s.Prior != api.Open && s.Prior != api.Paid {
			return false
		}
	} else if s.Prior != api.None {
		return false
	}
	full := s.Paid > 0 && s.Paid == owed(s)
	switch stands {
	case api.None:
		return len(s.Lines) == 0 && s.Cur == 0 && s.Tax == 0 && s.Paid == 0 && s.Stamp == 0 && s.Who == "" && s.Refused == s.Events
	case api.Open:
		return noneShipped(s) && s.Refunded == 0 && !full
	case api.Paid:
		return full && !allShipped(s)
	case api.Sent:
		return full && allShipped(s)
	}
	return noneShipped(s)
}

// lineOf is the place of an item's line, or -1.
func lineOf(s api.State, item int) int {
	return slices.IndexFunc(s.Lines, func(l api.Line) bool { return l.Item == item })
}

// useOf tells whether a state has a use for a kind: rule 5 of P8.2.
func useOf(s api.State, k api.Kind) bool {
	switch k {
	case api.Place:
		return s.Status == api.None
	case api.Add, api.Drop:
		return s.Status == api.Open && s.Paid == 0
	case api.Pay:
		return s.Status == api.Open
	case api.Ship, api.Clear:
		return s.Status == api.Paid
	case api.Refund:
		return s.Status == api.Paid || s.Status == api.Sent || s.Status == api.Cancelled
	case api.Cancel:
		return s.Status == api.Open || (s.Status == api.Held || s.Status == api.Paid) && noneShipped(s)
	case api.Hold:
		return s.Status == api.Open || s.Status == api.Paid
	}
	return s.Status == api.Held
}

// reason is Judge by the letter.
func reason(s api.State, e api.Event) api.Reason {
	if !rightState(s) || schema.Check(5, e) != api.OK || s.Events == 1<<40 {
		return api.Broken
	}
	k, at, line := e.Kind, lineOf(s, e.Item), api.Line{}
	if at >= 0 {
		line = s.Lines[at]
	}
	for _, rule := range []struct {
		why   api.Reason
		holds bool
	}{
		{api.Foreign, e.Order != s.Order},
		{api.Unknown, s.Status == api.None && k != api.Place},
		{api.Again, s.Status != api.None && k == api.Place},
		{api.Wrong, !useOf(s, k)},
		{api.Nothing, (k == api.Add || k == api.Drop || k == api.Ship) && e.Qty == 0},
		{api.Nothing, (k == api.Pay || k == api.Refund) && e.Price == 0},
		{api.Missing, (k == api.Drop || k == api.Ship) && at < 0},
		{api.Clash, k == api.Add && at >= 0 && line.Price != e.Price},
		{api.TooMany, k == api.Add && at < 0 && len(s.Lines) == 16},
		{api.TooMuch, k == api.Add && line.Qty+e.Qty > 100000},
		{api.TooMuch, k == api.Drop && e.Qty > line.Qty},
		{api.TooMuch, k == api.Ship && e.Qty > line.Qty-line.Shipped},
		{api.TooMuch, k == api.Pay && s.Paid+e.Price > owed(s)},
		{api.TooMuch, k == api.Refund && s.Refunded+e.Price > s.Paid},
	} {
		if rule.holds {
			return rule.why
		}
	}
	return api.Fine
}

// after is Apply's state by the letter.
func after(s api.State, e api.Event) api.State {
	s.Lines = slices.Clone(s.Lines)
	switch reason(s, e) {
	case api.Fine:
	case api.Broken, api.Foreign:
		return s
	default:
		s.Events, s.Refused = s.Events+1, s.Refused+1
		return s
	}
	s.Events++
	if e.Stamp > s.Stamp {
		s.Stamp = e.Stamp
	}
	if len(e.Who) > 0 {
		s.Who = e.Who
	}
	at := lineOf(s, e.Item)
	switch e.Kind {
	case api.Place:
		s.Status, s.Cur, s.Tax = api.Open, e.Cur, e.Tax
	case api.Add:
		if at < 0 {
			s.Lines = append(s.Lines, api.Line{Item: e.Item, Price: e.Price})
			at = len(s.Lines) - 1
		}
		s.Lines[at].Qty += e.Qty
		slices.SortFunc(s.Lines, func(a, b api.Line) int { return a.Item - b.Item })
	case api.Drop:
		s.Lines[at].Qty -= e.Qty
		s.Lines = slices.DeleteFunc(s.Lines, func(l api.Line) bool { return l.Qty == 0 })
	case api.Pay:
		s.Paid += e.Price
		if s.Paid == owed(s) {
			s.Status = api.Paid
		}
	case api.Ship:
		s.Lines[at].Shipped += e.Qty
		if allShipped(s) {
			s.Status = api.Sent
		}
	case api.Clear:
		for i := range s.Lines {
			s.Lines[i].Shipped = s.Lines[i].Qty
		}
		s.Status = api.Sent
	case api.Refund:
		s.Refunded += e.Price
	case api.Cancel:
		s.Status, s.Prior = api.Cancelled, api.None
	case api.Hold:
		s.Prior, s.Status = s.Status, api.Held
	case api.Release:
		s.Status, s.Prior = s.Prior, api.None
	}
	return s
}

// same tells whether two states are one; a list of no lines may be nil or empty.
func same(a, b api.State) bool {
	lines := slices.Equal(a.Lines, b.Lines)
	return lines && a.Order == b.Order && a.Status == b.Status && a.Prior == b.Prior && a.Cur == b.Cur && a.Tax == b.Tax &&
		a.Paid == b.Paid && a.Refunded == b.Refunded && a.Events == b.Events && a.Refused == b.Refused && a.Stamp == b.Stamp && a.Who == b.Who
}

// put is s with something changed; the lines are copied ahead of it.
func put(s api.State, change func(s *api.State)) api.State {
	s.Lines = slices.Clone(s.Lines)
	change(&s)
	return s
}

// pick is a number between the two, at an end of them as often as not.
func pick(r *rand.Rand, least, most int) int {
	switch r.Intn(4) {
	case 0:
		return least
	case 1:
		return most
	}
	return least + r.Intn(most-least+1)
}

// some is a valid state of that status and Prior, with the likes of those lines and sums at which something turns.
func some(r *rand.Rand, status, prior api.Status) api.State {
	stands := status
	if status == api.Held {
		stands = prior
	}
	for {
		s := api.State{Order: pick(r, 1, 1<<40), Status: status, Prior: prior, Events: pick(r, 0, 1<<40)}
		s.Refused = pick(r, 0, s.Events)
		if stands == api.None {
			s.Refused = s.Events
			return s
		}
		s.Cur, s.Tax, s.Stamp = pick(r, 0, 3), pick(r, 0, 5000), pick(r, 0, 1<<40)
		s.Who = []string{"", "ann", "old", "a-9", strings.Repeat("z", 16)}[r.Intn(5)]
		item := 0
		for range pick(r, 0, 16) {
			l := api.Line{Item: item + r.Intn(3), Price: pick(r, 0, 1000), Qty: pick(r, 1, 20)}
			if r.Intn(10) == 0 {
				l.Price, l.Qty = pick(r, 0, 100000000), pick(r, 1, 100000)
			}
			if stands == api.Sent || stands == api.Paid && r.Intn(2) == 0 {
				l.Shipped = l.Qty
			} else if stands == api.Paid {
				l.Shipped = pick(r, 0, l.Qty)
			}
			s.Lines, item = append(s.Lines, l), l.Item+1
		}
		s.Paid = pick(r, 0, owed(s)) * r.Intn(2)
		if stands == api.Paid || stands == api.Sent {
			s.Paid = owed(s)
		}
		if stands != api.Open {
			s.Refunded = pick(r, 0, s.Paid)
		}
		if rightState(s) {
			return s
		}
	}
}

// ways is each status, the held ones by what they were.
var ways = [][2]api.Status{{api.None, 0}, {api.Open, 0}, {api.Held, api.Open}, {api.Held, api.Paid}, {api.Paid, 0}, {api.Sent, 0}, {api.Cancelled, 0}}

func anyState(r *rand.Rand) api.State {
	way := ways[r.Intn(len(ways))]
	return some(r, way[0], way[1])
}

// anyEvent is an event that has to do with the state, more or less.
func anyEvent(r *rand.Rand, s api.State) api.Event {
	e := api.Event{Kind: api.Kind(1 + r.Intn(10)), Order: s.Order, Item: r.Intn(40), Qty: r.Intn(12), Price: r.Intn(3),
		Cur: r.Intn(4), Tax: r.Intn(5001), Who: []string{"", "bob"}[r.Intn(2)], Stamp: pick(r, 0, 1<<40), Note: strings.Repeat("n", r.Intn(4))}
	if len(s.Lines) > 0 && r.Intn(4) > 0 {
		l := s.Lines[r.Intn(len(s.Lines))]
		e.Item, e.Price = l.Item, l.Price
		e.Qty = []int{0, 1, l.Qty, l.Qty + 1, l.Qty - l.Shipped, l.Qty - l.Shipped + 1, 100000 - l.Qty, 100000 - l.Qty + 1, 10000}[r.Intn(9)]
		if r.Intn(4) == 0 {
			e.Price++
		}
	}
	if e.Kind == api.Pay && r.Intn(4) > 0 {
		left := owed(s) - s.Paid
		e.Price = []int{0, 1, left - 1, left, left, left + 1, left / 2}[r.Intn(7)]
	}
	if e.Kind == api.Refund && r.Intn(4) > 0 {
		left := s.Paid - s.Refunded
		e.Price = []int{0, 1, left - 1, left, left + 1, left / 2}[r.Intn(6)]
	}
	if r.Intn(20) == 0 {
		e.Order++
	}
	if schema.Check(5, e) != api.OK && r.Intn(10) > 0 {
		e.Qty, e.Price = min(max(e.Qty, 0), 10000), min(max(e.Price, 0), 100000000)
	}
	return e
}

// outer is numbers at and beyond the bounds of all fields.
var outer = []int{math.MinInt, -1 << 62, -1, 0, 1, 2, 3, 4, 5, 6, 5000, 5001, 65535, 65536, 100000, 100001, 100000000, 100000001,
	1<<32 + 1, 1<<40 - 1, 1 << 40, 1<<40 + 1, 1 << 62, math.MaxInt}

// edges is s with each field put at the likes of its bounds, one at a time.
func edges(s api.State) []api.State {
	var all []api.State
	each := func(set func(s *api.State, x int), own ...int) {
		for _, x := range append(own, outer...) {
			all = append(all, put(s, func(s *api.State) { set(s, x) }))
		}
	}
	each(func(s *api.State, x int) { s.Order = x })
	each(func(s *api.State, x int) { s.Status = api.Status(x) })
	each(func(s *api.State, x int) { s.Prior = api.Status(x) })
	each(func(s *api.State, x int) { s.Status, s.Prior = api.Held, api.Status(x) })
	each(func(s *api.State, x int) { s.Cur = x })
	each(func(s *api.State, x int) { s.Tax = x })
	each(func(s *api.State, x int) { s.Paid = x }, owed(s)-1, owed(s), owed(s)+1, s.Refunded-1, s.Refunded)
	each(func(s *api.State, x int) { s.Refunded = x }, s.Paid-1, s.Paid, s.Paid+1)
	each(func(s *api.State, x int) { s.Events = x }, s.Refused-1, s.Refused, s.Refused+1)
	each(func(s *api.State, x int) { s.Refused = x }, s.Events-1, s.Events, s.Events+1)
	each(func(s *api.State, x int) { s.Stamp = x })
	for i, l := range s.Lines {
		each(func(s *api.State, x int) { s.Lines[i].Item = x }, l.Item-1, l.Item+1)
		each(func(s *api.State, x int) { s.Lines[i].Price = x })
		each(func(s *api.State, x int) { s.Lines[i].Qty = x }, l.Shipped-1, l.Shipped, l.Shipped+1)
		each(func(s *api.State, x int) { s.Lines[i].Shipped = x }, l.Qty-1, l.Qty, l.Qty+1)
		all = append(all, put(s, func(s *api.State) { s.Lines = slices.Delete(s.Lines, i, i+1) }))
	}
	all = append(all, put(s, func(s *api.State) { s.Lines = append(s.Lines, api.Line{Item: 65535, Qty: 1}) }))
	for _, who := range []string{"", "a", "-", "A", "a b", "a\x00", "\xff", strings.Repeat("9", 16), strings.Repeat("9", 17), strings.Repeat("a", 500)} {
		all = append(all, put(s, func(s *api.State) { s.Who = who }))
	}
	return all
}

// mulDiv is a times b, divided by c, of numbers of any size.
func mulDiv(a, b, c int) int64 {
	return new(big.Int).Quo(new(big.Int).Mul(big.NewInt(int64(a)), big.NewInt(int64(b))), big.NewInt(int64(c))).Int64()
}

// mulMod is what that division leaves.
func mulMod(a, b, c int) int {
	return int(new(big.Int).Rem(new(big.Int).Mul(big.NewInt(int64(a)), big.NewInt(int64(b))), big.NewInt(int64(c))).Int64())
}
