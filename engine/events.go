package engine

import (
	"strconv"
	"strings"

	"daybook/api"
	"daybook/dump"
	"daybook/upkeep"
	"daybook/view"
)

// add appends an event.
func (g *Engine) add(c api.Command) ([]string, api.Errno) {
	return numbered(g.journal.Append(c.Nums[0], c.Event))
}

// put appends a packed event.
func (g *Engine) put(c api.Command) ([]string, api.Errno) {
	return numbered(g.journal.Put(c.Raw))
}

// load is the state of an order.
func (g *Engine) load(c api.Command) ([]string, api.Errno) {
	s, bad := g.journal.Load(c.Nums[0])
	if bad != api.OK {
		return nil, bad
	}
	line, _ := dump.State(s) // a journal gives out valid states alone
	return []string{line}, api.OK
}

// replay is the events from a number on.
func (g *Engine) replay(c api.Command) ([]string, api.Errno) {
	records, bad := g.journal.Replay(c.Nums[0])
	if bad != api.OK {
		return nil, bad
	}
	var lines []string
	for _, r := range records {
		line, _ := dump.Line(r) // and right events alone
		lines = append(lines, line)
	}
	return counted(lines), api.OK
}

// orders is the numbers of all orders.
func (g *Engine) orders(c api.Command) ([]string, api.Errno) {
	ids, bad := g.journal.Orders()
	if bad != api.OK {
		return nil, bad
	}
	words := done()
	for _, id := range ids {
		words = append(words, strconv.Itoa(id))
	}
	return []string{strings.Join(words, " ")}, api.OK
}

// view is what all orders come to.
func (g *Engine) view(c api.Command) ([]string, api.Errno) {
	states, bad := upkeep.States(g.journal.Store) // not by the journal, which would keep a refusal in its Err
	if bad != api.OK {
		return nil, bad
	}
	return []string{viewLine(view.Of(states))}, api.OK
}

// viewLine is a view as a line.
func viewLine(v api.View) string {
	statuses := make([]string, 0, len(v.ByStatus))
	for _, n := range v.ByStatus {
		statuses = append(statuses, strconv.Itoa(n))
	}
	words := []string{
		"orders=" + strconv.Itoa(v.Orders),
		"status=" + strings.Join(statuses, ","),
		"events=" + strconv.Itoa(v.Events),
		"refused=" + strconv.Itoa(v.Refused),
		"paid=" + strconv.Itoa(v.Paid),
		"refunded=" + strconv.Itoa(v.Refunded),
		"pieces=" + strconv.Itoa(v.Pieces),
		"shipped=" + strconv.Itoa(v.Shipped),
	}
	return strings.Join(words, " ")
}

// err is what is told of the last call that was refused.
func (g *Engine) err(c api.Command) ([]string, api.Errno) {
	err := g.journal.Err()
	if err == nil {
		return []string{"none"}, api.OK
	}
	return []string{err.Error()}, api.OK
}
