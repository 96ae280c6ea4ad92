package view

import (
	"cmp"
	"slices"

	"daybook/api"
	"daybook/book"
	"daybook/order"
)

// Board is states and their view, kept event by event.
type Board struct {
	states map[int]api.State // by order; their lines are the board's own
}

// NewBoard is a board with a book's states on it.
func NewBoard(ss []api.State) *Board {
	if !book.Valid(ss) {
		return nil
	}
	b := &Board{states: make(map[int]api.State, len(ss))}
	for _, s := range ss {
		b.states[s.Order] = own(s)
	}
	return b
}

// own is a state that shares no line with the one it is made of.
func own(s api.State) api.State {
	s.Lines = slices.Clone(s.Lines)
	return s
}

// Apply brings an event to the state of its order, and tells why it was refused.
func (b *Board) Apply(e api.Event) api.Reason {
	if b == nil {
		return api.Broken
	}
	s, there := b.states[e.Order]
	if !there {
		s = order.Empty(e.Order)
	}
	s, why := order.Apply(s, e)
	if s.Events >= 1 {
		b.put(s)
	}
	return why
}

// put lays a state on the board, in the place of the one of its order. A board that NewBoard hasn't made has no map yet.
func (b *Board) put(s api.State) {
	if b.states == nil {
		b.states = make(map[int]api.State)
	}
	b.states[s.Order] = s
}

// View is what all states come to.
func (b *Board) View() api.View { return Of(b.States()) }

// States is the states, by rising order.
func (b *Board) States() []api.State {
	if b == nil {
		return nil
	}
	ss := make([]api.State, 0, len(b.states))
	for _, s := range b.states {
		ss = append(ss, own(s))
	}
	slices.SortFunc(ss, func(x, y api.State) int { return cmp.Compare(x.Order, y.Order) })
	return ss
}
