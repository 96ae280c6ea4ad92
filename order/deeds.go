package order

import (
	"cmp"
	"slices"

	"daybook/api"
	"daybook/schema"
)

// deed is what events of one kind do to an order.
type deed struct {
	suits  suiting  // the order has a use for the kind as it stands
	refuse refusing // what else speaks against the event, or Fine
	do     doing    // it may change the lines in their place
}

type (
	suiting  func(s api.State) bool
	refusing func(s api.State, e api.Event) api.Reason
	doing    func(s api.State, e api.Event) api.State
)

// table holds the deed of each kind at its number.
type table []deed

func deeds() table {
	return table{
		api.Place:   {at(api.None), never, place},
		api.Add:     {both(at(api.Open), unpaid), refuseAdd, add},
		api.Pay:     {at(api.Open), money(unpaidRest), pay},
		api.Ship:    {at(api.Paid), taking(unshippedRest), ship},
		api.Cancel:  {both(at(api.Open, api.Held, api.Paid), unshipped), never, cancel}, // of an open one nothing is shipped
		api.Drop:    {both(at(api.Open), unpaid), taking(ordered), drop},
		api.Refund:  {at(api.Paid, api.Sent, api.Cancelled), money(keptRest), refund},
		api.Hold:    {at(api.Open, api.Paid), never, hold},
		api.Release: {at(api.Held), never, release},
		api.Clear:   {at(api.Paid), never, clearUp},
	}
}

func (t table) judge(s api.State, e api.Event) api.Reason {
	switch {
	case !Valid(s) || schema.Check(api.Versions, e) != api.OK || s.Events == api.MaxSeq:
		return api.Broken
	case e.Order != s.Order:
		return api.Foreign
	}
	if why := t.standing(s, e.Kind); why != api.Fine {
		return why
	}
	return t[e.Kind].refuse(s, e)
}

// standing is what speaks against the kind as the order stands, whatever else the event tells.
func (t table) standing(s api.State, k api.Kind) api.Reason {
	switch {
	case s.Status == api.None && k != api.Place:
		return api.Unknown
	case s.Status != api.None && k == api.Place:
		return api.Again
	case !t[k].suits(s):
		return api.Wrong
	}
	return api.Fine
}

// next is the state behind the event, and why it was refused. It may change the lines in their place.
func (t table) next(s api.State, e api.Event) (api.State, api.Reason) {
	why := t.judge(s, e)
	switch why {
	case api.Broken, api.Foreign:
		return s, why
	case api.Fine:
		s = t[e.Kind].do(s, e)
		s.Stamp = max(s.Stamp, e.Stamp)
		if e.Who != "" {
			s.Who = e.Who
		}
	default:
		s.Refused++
	}
	s.Events++
	return s, why
}

// at suits an order that has one of these statuses.
func at(statuses ...api.Status) suiting {
	return func(s api.State) bool { return slices.Contains(statuses, s.Status) }
}

func both(a, b suiting) suiting {
	return func(s api.State) bool { return a(s) && b(s) }
}

func never(s api.State, e api.Event) api.Reason { return api.Fine }

func refuseAdd(s api.State, e api.Event) api.Reason {
	var line api.Line
	i, found := find(s.Lines, e.Item)
	if found {
		line = s.Lines[i]
	}
	switch {
	case e.Qty == 0:
		return api.Nothing
	case found && line.Price != e.Price:
		return api.Clash
	case !found && len(s.Lines) == api.MaxLines:
		return api.TooMany
	case line.Qty+e.Qty > api.MaxStock:
		return api.TooMuch
	}
	return api.Fine
}

// taking refuses what can't be taken of a line of which so many pieces are left.
func taking(left func(l api.Line) int) refusing {
	return func(s api.State, e api.Event) api.Reason {
		i, found := find(s.Lines, e.Item)
		switch {
		case e.Qty == 0:
			return api.Nothing
		case !found:
			return api.Missing
		case e.Qty > left(s.Lines[i]):
			return api.TooMuch
		}
		return api.Fine
	}
}

func ordered(l api.Line) int { return l.Qty }

func unshippedRest(l api.Line) int { return l.Qty - l.Shipped }

// money refuses more than what is left to be paid, or paid back.
func money(left func(s api.State) int) refusing {
	return func(s api.State, e api.Event) api.Reason {
		switch {
		case e.Price == 0:
			return api.Nothing
		case e.Price > left(s):
			return api.TooMuch
		}
		return api.Fine
	}
}

func unpaidRest(s api.State) int { return due(s) - s.Paid }

func keptRest(s api.State) int { return s.Paid - s.Refunded }

func place(s api.State, e api.Event) api.State {
	s.Status, s.Cur, s.Tax = api.Open, e.Cur, e.Tax
	return s
}

func add(s api.State, e api.Event) api.State {
	i, found := find(s.Lines, e.Item)
	if !found {
		s.Lines = slices.Insert(s.Lines, i, api.Line{Item: e.Item, Price: e.Price})
	}
	s.Lines[i].Qty += e.Qty
	return s
}

func drop(s api.State, e api.Event) api.State {
	i, _ := find(s.Lines, e.Item)
	s.Lines[i].Qty -= e.Qty
	if s.Lines[i].Qty == 0 {
		s.Lines = slices.Delete(s.Lines, i, i+1)
	}
	return s
}

func pay(s api.State, e api.Event) api.State {
	s.Paid += e.Price
	if paidUp(s) {
		s.Status = api.Paid
	}
	return s
}

func ship(s api.State, e api.Event) api.State {
	i, _ := find(s.Lines, e.Item)
	s.Lines[i].Shipped += e.Qty
	if shippedWhole(s) {
		s.Status = api.Sent
	}
	return s
}

func clearUp(s api.State, e api.Event) api.State {
	for i, l := range s.Lines {
		s.Lines[i].Shipped = l.Qty
	}
	s.Status = api.Sent
	return s
}

func refund(s api.State, e api.Event) api.State {
	s.Refunded += e.Price
	return s
}

func cancel(s api.State, e api.Event) api.State {
	s.Status, s.Prior = api.Cancelled, api.None
	return s
}

func hold(s api.State, e api.Event) api.State {
	s.Status, s.Prior = api.Held, s.Status
	return s
}

func release(s api.State, e api.Event) api.State {
	s.Status, s.Prior = s.Prior, api.None
	return s
}

// find is the place of an item's line, or where it would stand.
func find(lines []api.Line, item int) (int, bool) {
	return slices.BinarySearchFunc(lines, item, func(l api.Line, item int) int {
		return cmp.Compare(l.Item, item)
	})
}
