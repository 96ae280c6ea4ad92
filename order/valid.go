package order

import (
	"daybook/api"
	"daybook/num"
	"daybook/schema"
)

// whole is what a tax is told in parts of.
const whole = 10000

// Valid tells whether a state is one that an order can have.
func Valid(s api.State) bool {
	// What is due is asked for last: only within the bounds does no number wrap round.
	return bounded(s) && rightLines(s.Lines) && rightPrior(s) &&
		within(0, s.Paid, due(s)) && within(0, s.Refunded, s.Paid) && fits(s)
}

// bounded tells whether each field is within the bounds that hang on no line.
func bounded(s api.State) bool {
	return within(1, s.Order, api.MaxOrder) &&
		within(int(api.None), int(s.Status), int(api.Cancelled)) &&
		within(0, s.Cur, api.MaxCur) &&
		within(0, s.Tax, api.MaxTax) &&
		within(0, s.Events, api.MaxSeq) &&
		within(0, s.Refused, s.Events) &&
		within(0, s.Stamp, api.MaxStamp) &&
		rightWho(s.Who)
}

func within(least, x, most int) bool { return least <= x && x <= most }

// rightWho leaves it to the events' layer which texts name somebody.
func rightWho(who string) bool {
	named := api.Event{Kind: api.Place, Order: 1, Who: who}
	return schema.Check(api.Versions, named) == api.OK
}

func rightLines(lines []api.Line) bool {
	if len(lines) > api.MaxLines {
		return false
	}
	last := -1
	for _, l := range lines {
		right := within(last+1, l.Item, api.MaxItem) &&
			within(0, l.Price, api.MaxPrice) &&
			within(1, l.Qty, api.MaxStock) &&
			within(0, l.Shipped, l.Qty)
		if !right {
			return false
		}
		last = l.Item
	}
	return true
}

func rightPrior(s api.State) bool {
	if s.Status == api.Held {
		return s.Prior == api.Open || s.Prior == api.Paid
	}
	return s.Prior == api.None
}

// stands is the status, or what a held order was.
func stands(s api.State) api.Status {
	if s.Status == api.Held {
		return s.Prior
	}
	return s.Status
}

// fits tells whether lines and payments are those of an order that stands so.
func fits(s api.State) bool {
	switch stands(s) {
	case api.None:
		return untouched(s)
	case api.Open:
		return unshipped(s) && s.Refunded == 0 && !paidUp(s)
	case api.Paid:
		return paidUp(s) && !shippedWhole(s)
	case api.Sent:
		return paidUp(s) && shippedWhole(s)
	}
	return unshipped(s)
}

// untouched tells whether nothing is known of the order but how many events it has refused.
func untouched(s api.State) bool {
	return len(s.Lines) == 0 && s.Cur == 0 && s.Tax == 0 && s.Paid == 0 &&
		s.Stamp == 0 && s.Who == "" && s.Refused == s.Events
}

func unpaid(s api.State) bool { return s.Paid == 0 }

func paidUp(s api.State) bool { return s.Paid > 0 && s.Paid == due(s) }

func unshipped(s api.State) bool {
	for _, l := range s.Lines {
		if l.Shipped > 0 {
			return false
		}
	}
	return true
}

func shippedWhole(s api.State) bool {
	for _, l := range s.Lines {
		if l.Shipped < l.Qty {
			return false
		}
	}
	return true
}

// worth is what a line comes to, ahead of the tax.
func worth(l api.Line) int64 { return int64(l.Qty) * int64(l.Price) }

// due is what is due of a state whose lines and tax are within their bounds.
func due(s api.State) int {
	var sum int64
	for _, l := range s.Lines {
		sum += worth(l)
	}
	tax, _ := num.MulDiv(sum, int64(s.Tax), whole)
	return int(sum + tax)
}
