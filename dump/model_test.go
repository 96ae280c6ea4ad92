package dump_test

import (
	"fmt"
	"math/big"
	"math/rand"
	"regexp"
	"slices"
	"strings"

	"daybook/api"
	"daybook/order"
	"daybook/schema"
)

// The model: the words by the letter of the chapter, over lists of words.

var (
	number   = regexp.MustCompile(`^(0|-?[1-9][0-9]*)$`)
	pairs    = regexp.MustCompile(`^([0-9a-f]{2})*$`)
	allKinds = strings.Fields("place add pay ship cancel drop refund hold release clear")
	allKeys  = strings.Fields("order item qty price cur tax who stamp")
)

func modelNumber(s string) (int, api.Errno) {
	n, ok := new(big.Int).SetString(s, 10)
	if !number.MatchString(s) || !ok || !n.IsInt64() {
		return 0, api.ErrWord
	}
	return int(n.Int64()), api.OK
}

func modelUnhex(s string) ([]byte, api.Errno) {
	var b []byte
	if !pairs.MatchString(s) || strings.HasSuffix(s, "\n") {
		return nil, api.ErrWord
	}
	fmt.Sscanf(s, "%x", &b)
	return b, api.OK
}

func modelWords(v int, e api.Event) (string, api.Errno) {
	if bad := schema.Check(v, e); bad != api.OK {
		return "", bad
	}
	text := allKinds[e.Kind-1]
	put := func(key string, n int) {
		if n != 0 {
			text += fmt.Sprintf(" %s=%d", key, n)
		}
	}
	put("order", e.Order)
	put("item", e.Item)
	put("qty", e.Qty)
	put("price", e.Price)
	put("cur", e.Cur)
	put("tax", e.Tax)
	if e.Who != "" {
		text += " who=" + e.Who
	}
	put("stamp", e.Stamp)
	if e.Note != "" {
		text += fmt.Sprintf(" note=%x", e.Note)
	}
	return text, api.OK
}

func modelEvent(v int, s string) (api.Event, api.Errno) {
	words := strings.Split(s, " ")
	e := api.Event{Kind: api.Kind(1 + slices.Index(allKinds, words[0]))}
	if e.Kind == 0 {
		return api.Event{}, api.ErrLine
	}
	ahead := -1
	for i, word := range words[1:] {
		is := strings.Index(word, "=")
		if is < 0 {
			return api.Event{}, api.ErrLine
		}
		key, value := word[:is], word[is+1:]
		if key == "note" && i == len(words)-2 {
			b, bad := modelUnhex(value)
			if bad != api.OK || len(b) == 0 {
				return api.Event{}, api.ErrWord
			}
			e.Note = string(b)
			continue
		}
		at := slices.Index(allKeys, key)
		if at < 0 || at <= ahead {
			return api.Event{}, api.ErrLine
		}
		ahead = at
		if key == "who" {
			if value == "" {
				return api.Event{}, api.ErrWord
			}
			e.Who = value
			continue
		}
		n, bad := modelNumber(value)
		if bad != api.OK || n == 0 {
			return api.Event{}, api.ErrWord
		}
		*[]*int{&e.Order, &e.Item, &e.Qty, &e.Price, &e.Cur, &e.Tax, nil, &e.Stamp}[at] = n
	}
	if bad := schema.Check(v, e); bad != api.OK {
		return api.Event{}, bad
	}
	return e, api.OK
}

func modelRecord(line string) (api.Record, api.Errno) {
	at := strings.Index(line, " ")
	if at < 0 {
		return api.Record{}, api.ErrLine
	}
	seq, bad := modelNumber(line[:at])
	if bad != api.OK {
		return api.Record{}, bad
	}
	if seq < 1 || seq > 1<<40 {
		return api.Record{}, api.ErrArg
	}
	e, bad := modelEvent(5, line[at+1:])
	if bad != api.OK {
		return api.Record{}, bad
	}
	return api.Record{Seq: seq, Event: e}, api.OK
}

func modelRead(s string) ([]api.Record, int, api.Errno) {
	lines := strings.Split(s, "\n")
	last := len(lines) - 1 // what stands behind the last line end
	var rs []api.Record
	for i, line := range lines[:last] {
		r, bad := modelRecord(line)
		if bad != api.OK {
			return nil, i + 1, bad
		}
		rs = append(rs, r)
	}
	if lines[last] != "" {
		return nil, last + 1, api.ErrShort
	}
	return rs, 0, api.OK
}

func modelState(s api.State) (string, api.Errno) {
	if !order.Valid(s) {
		return "", api.ErrState
	}
	statuses := strings.Fields("none open held paid sent cancelled")
	text := fmt.Sprintf("order %d %s", s.Order, statuses[s.Status])
	if s.Status == api.Held {
		text += " " + statuses[s.Prior]
	}
	for i, n := range []int{s.Cur, s.Tax, s.Paid, s.Refunded, s.Events, s.Refused, s.Stamp} {
		if n != 0 {
			text += fmt.Sprintf(" %s=%d", strings.Fields("cur tax paid refunded events refused stamp")[i], n)
		}
	}
	if s.Who != "" {
		text += " who=" + s.Who
	}
	for _, l := range s.Lines {
		text += fmt.Sprintf(" %d:%d*%d-%d", l.Item, l.Price, l.Qty, l.Shipped)
	}
	return text, api.OK
}

// near is a number between two, at an end of them as often as not.
func near(r *rand.Rand, least, most int) int {
	switch r.Intn(4) {
	case 0:
		return least
	case 1:
		return most
	}
	return least + r.Intn(most-least+1)
}

// someEvent is a right event of a version.
func someEvent(r *rand.Rand, v int) api.Event {
	for {
		e := api.Event{Kind: api.Kind(1 + r.Intn(10)), Order: near(r, 1, 1<<40), Item: near(r, 0, 65535), Qty: near(r, 0, 10000), Price: near(r, 0, 1000000)}
		if v < 3 && r.Intn(2) == 0 {
			e.Qty = -e.Qty
		}
		if v > 1 {
			e.Price, e.Cur = near(r, 0, 100000000), near(r, 0, 3)
		}
		if v > 2 {
			e.Tax = near(r, 0, 5000)
		}
		if v > 3 {
			e.Who = []string{"", "ann", "a-9", "-", "0", strings.Repeat("z", 16)}[r.Intn(6)]
		}
		if v > 4 {
			note := make([]byte, near(r, 0, 120))
			r.Read(note)
			e.Stamp, e.Note = near(r, 0, 1<<40), string(note)
		}
		if schema.Check(v, e) == api.OK {
			return e
		}
	}
}

// anyEvent is an event with a field or two that are perhaps out of their bounds.
func anyEvent(r *rand.Rand) (int, api.Event) {
	v := 1 + r.Intn(5)
	e := someEvent(r, v)
	outer := []int{-1 << 63, -1, 0, 1, 4, 11, 5001, 65536, 10001, 1000001, 100000001, 1<<40 + 1, 1<<63 - 1}
	for range r.Intn(3) {
		n := outer[r.Intn(len(outer))]
		switch r.Intn(11) {
		case 0:
			v = n
		case 1:
			e.Kind = api.Kind(n)
		case 2:
			e.Order = n
		case 3:
			e.Item = n
		case 4:
			e.Qty = n
		case 5:
			e.Price = n
		case 6:
			e.Cur = n
		case 7:
			e.Tax = n
		case 8:
			e.Stamp = n
		case 9:
			e.Who = []string{"A", "a b", "a=b", strings.Repeat("a", 17), "\xff"}[r.Intn(5)]
		case 10:
			e.Note = strings.Repeat("n", 119+r.Intn(4))
		}
	}
	return v, e
}

// spoilt is a text with something changed.
func spoilt(r *rand.Rand, s string) string {
	words := strings.Split(s, " ")
	i := r.Intn(len(words))
	at := r.Intn(len(s) + 1)
	switch r.Intn(9) {
	case 0:
		words = slices.Delete(words, i, i+1)
	case 1:
		words = slices.Insert(words, i, words[r.Intn(len(words))])
	case 2:
		j := r.Intn(len(words))
		words[i], words[j] = words[j], words[i]
	case 3:
		return s[:at]
	case 4:
		return s[:at] + []string{" ", "=", "0", "-", "1", "a", "f", "A", "\n", "\x00", "\xff"}[r.Intn(11)] + s[at:]
	case 5:
		key, _, _ := strings.Cut(words[i], "=")
		words[i] = key + "=" + []string{"", "0", "-0", "07", "+7", "7 ", "7_0", "-7", "x", "61", "6", "6A", "9223372036854775807", "9223372036854775808", "-9223372036854775809", "a=b"}[r.Intn(16)]
	case 6:
		words = slices.Insert(words, i, []string{"order=1", "who=bob", "note=61", "stamp=4", "kind=1", "=", "=1", "place", "noted=61", ""}[r.Intn(10)])
	case 7:
		if at < len(s) {
			return s[:at] + s[at+1:]
		}
	case 8:
		words[i] = strings.ToUpper(words[i])
	}
	return strings.Join(words, " ")
}

// owed is what is due of a state, by numbers of any size.
func owed(s api.State) int {
	sum := new(big.Int)
	for _, l := range s.Lines {
		sum.Add(sum, new(big.Int).Mul(big.NewInt(int64(l.Qty)), big.NewInt(int64(l.Price))))
	}
	tax := new(big.Int).Mul(sum, big.NewInt(int64(s.Tax)))
	return int(sum.Add(sum, tax.Quo(tax, big.NewInt(10000))).Int64())
}

// someState is a valid state of any status.
func someState(r *rand.Rand) api.State {
	ways := [][2]api.Status{{api.None, 0}, {api.Open, 0}, {api.Held, api.Open}, {api.Held, api.Paid}, {api.Paid, 0}, {api.Sent, 0}, {api.Cancelled, 0}}
	for {
		way := ways[r.Intn(len(ways))]
		s := api.State{Order: near(r, 1, 1<<40), Status: way[0], Prior: way[1], Events: near(r, 0, 1<<40)}
		s.Refused = near(r, 0, s.Events)
		if s.Status == api.None {
			s.Refused = s.Events
			return s
		}
		s.Cur, s.Tax, s.Stamp = near(r, 0, 3), near(r, 0, 5000), near(r, 0, 1<<40)
		s.Who = []string{"", "ann", "old", "a-9", "-", strings.Repeat("z", 16)}[r.Intn(6)]
		item := 0
		for range near(r, 0, 16) {
			l := api.Line{Item: item + r.Intn(3), Price: near(r, 0, 1000), Qty: near(r, 1, 20)}
			if way[0] == api.Sent || way[0]+way[1] != api.Open && way[0] != api.Cancelled && way[1] != api.Open && r.Intn(2) == 0 {
				l.Shipped = l.Qty
			}
			s.Lines, item = append(s.Lines, l), l.Item+1
		}
		s.Paid = near(r, 0, owed(s))
		if r.Intn(2) == 0 {
			s.Paid = owed(s)
		}
		s.Refunded = near(r, 0, s.Paid)
		if r.Intn(2) == 0 {
			s.Refunded = 0
		}
		if order.Valid(s) {
			return s
		}
	}
}
