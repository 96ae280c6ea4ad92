package upcast

import "daybook/api"

const (
	hundredths = 100   // of a unit
	old        = "old" // who did what is told without a name
)

// taxes is what each currency had while events told none.
var taxes = [api.MaxCur + 1]int{0, 1900, 2000, 700}

// step brings a right event of version from up to the next.
type step struct {
	from int
	up   func(api.Event) api.Event
}

// steps is all of them, in their order.
func steps() []step {
	return []step{{1, priced}, {2, taxed}, {3, named}, {4, cleared}}
}

// priced brings 1 up to 2: whole units become hundredths.
func priced(e api.Event) api.Event {
	e.Price *= hundredths
	return e
}

// taxed brings 2 up to 3: what took away by its sign does so by its kind, and the tax is told.
func taxed(e api.Event) api.Event {
	if e.Qty < 0 && e.Kind == api.Add {
		e.Kind, e.Qty = api.Drop, -e.Qty
	}
	e.Qty = max(e.Qty, 0)
	e.Tax = taxes[e.Cur]
	return e
}

// named brings 3 up to 4.
func named(e api.Event) api.Event {
	e.Who = old
	return e
}

// cleared brings 4 up to 5: a Ship without a quantity meant all that is left.
func cleared(e api.Event) api.Event {
	if e.Kind == api.Ship && e.Qty == 0 {
		e.Kind, e.Item = api.Clear, 0
	}
	return e
}
