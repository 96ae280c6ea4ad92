package schema

import "daybook/api"

// Check is what is wrong with an event of that version.
func Check(v int, e api.Event) api.Errno {
	is, ok := find(v)
	switch {
	case !ok:
		return api.ErrVersion
	case e.Kind < api.Place || e.Kind > is.lastKind():
		return api.ErrKind
	case len(e.Who) > api.MaxWho || len(e.Note) > api.MaxNote:
		return api.ErrBig
	case !bounded(is, e) || !ownOnly(v, e):
		return api.ErrField
	}
	return api.OK
}

// bounded tells whether each field but Kind and Note is within the version's bounds.
func bounded(is version, e api.Event) bool {
	return within(1, e.Order, api.MaxOrder) &&
		within(0, e.Item, api.MaxItem) &&
		within(is.leastQty(), e.Qty, api.MaxQty) &&
		within(0, e.Price, is.mostPrice()) &&
		within(0, e.Cur, api.MaxCur) &&
		within(0, e.Tax, api.MaxTax) &&
		plain(e.Who) &&
		within(0, e.Stamp, api.MaxStamp)
}

func within(least, x, most int) bool { return least <= x && x <= most }

// plain tells whether a text is of the letters a to z, the digits and - alone.
func plain(s string) bool {
	for _, c := range []byte(s) {
		letter := 'a' <= c && c <= 'z'
		digit := '0' <= c && c <= '9'
		if !letter && !digit && c != '-' {
			return false
		}
	}
	return true
}

// ownOnly tells whether the fields that later versions have more are zero.
func ownOnly(v int, e api.Event) bool {
	only := true
	switch v {
	case 1:
		only = e.Cur == 0
		fallthrough
	case 2:
		only = only && e.Tax == 0
		fallthrough
	case 3:
		only = only && e.Who == ""
		fallthrough
	case 4:
		only = only && e.Stamp == 0 && e.Note == ""
	}
	return only
}

// Kinds is the kinds that a version knows, rising.
func Kinds(v int) []api.Kind {
	is, ok := find(v)
	if !ok {
		return nil
	}
	var kinds []api.Kind
	for k := api.Place; k <= is.lastKind(); k++ {
		kinds = append(kinds, k)
	}
	return kinds
}
