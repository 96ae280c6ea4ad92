package dump

import (
	"strconv"
	"strings"

	"daybook/api"
	"daybook/order"
)

// statuses is the words of the statuses, from None on.
var statuses = [...]string{"none", "open", "held", "paid", "sent", "cancelled"}

// State is the state of an order as a line.
func State(s api.State) (string, api.Errno) {
	if !order.Valid(s) {
		return "", api.ErrState
	}
	words := []string{"order", strconv.Itoa(s.Order), statuses[s.Status]}
	if s.Status == api.Held {
		words = append(words, statuses[s.Prior])
	}
	words = append(words, pairs(s)...)
	for _, l := range s.Lines {
		words = append(words, lineWord(l))
	}
	return strings.Join(words, " "), api.OK
}

// pairs is the fields of a state that have keys and hold something.
func pairs(s api.State) []string {
	var words []string
	for _, x := range []struct {
		key string
		n   int
	}{
		{"cur", s.Cur},
		{"tax", s.Tax},
		{"paid", s.Paid},
		{"refunded", s.Refunded},
		{"events", s.Events},
		{"refused", s.Refused},
		{"stamp", s.Stamp},
	} {
		if x.n != 0 {
			words = append(words, pair(x.key, strconv.Itoa(x.n)))
		}
	}
	if s.Who != "" {
		words = append(words, pair(keyWho, s.Who))
	}
	return words
}

// lineWord is a line of an order as a word.
func lineWord(l api.Line) string {
	return strconv.Itoa(l.Item) + ":" + strconv.Itoa(l.Price) + "*" + strconv.Itoa(l.Qty) + "-" + strconv.Itoa(l.Shipped)
}
