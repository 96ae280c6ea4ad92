package book_test

import (
	"bytes"
	"encoding/binary"
	"math/rand"
	"slices"
	"strings"

	"daybook/api"
	"daybook/canon"
	"daybook/frame"
	"daybook/order"
	"daybook/varint"
)

// The model: a book by the letter of the chapter, over plain lists.

func modelValid(ss []api.State) bool {
	for i, s := range ss {
		if !order.Valid(s) || s.Events < 1 || i > 0 && s.Order <= ss[i-1].Order {
			return false
		}
	}
	return true
}

func modelPick(ss []api.State, id int) api.State {
	for _, s := range ss {
		if s.Order == id {
			return s
		}
	}
	return api.State{Order: id}
}

// modelFold puts each state at its place in the list as it comes.
func modelFold(ss []api.State, es []api.Event) []api.State {
	ss = slices.Clone(ss)
	for _, e := range es {
		next, _ := order.Apply(modelPick(ss, e.Order), e)
		at := 0
		for at < len(ss) && ss[at].Order < e.Order {
			at++
		}
		if at < len(ss) && ss[at].Order == e.Order {
			ss[at] = next
		} else if next.Events > 0 {
			ss = slices.Insert(ss, at, next)
		}
	}
	return ss
}

func framed(kind, seq int, body []byte) []byte {
	b, bad := frame.Encode(api.Frame{Kind: kind, Seq: seq, Body: body})
	if bad != api.OK {
		panic(bad)
	}
	return b
}

func number(n int) []byte { return binary.AppendUvarint(nil, uint64(n)) }

func recordOf(s api.State) []byte {
	b, bad := canon.Encode(s)
	if bad != api.OK {
		panic(bad)
	}
	return b
}

// parts is the frames of a book, whether its states make one or not.
func parts(num, seq int, ss []api.State) [][]byte {
	fs := [][]byte{framed(api.BookFrame, num, number(seq))}
	for _, s := range ss {
		fs = append(fs, framed(api.StateFrame, s.Order, recordOf(s)))
	}
	return append(fs, framed(api.EndFrame, num, number(len(ss))))
}

func joined(parts ...[]byte) []byte { return bytes.Join(parts, nil) }

func written(num, seq int, ss []api.State) []byte { return joined(parts(num, seq, ss)...) }

// modelDecode takes what can be read frame by frame, and what has other bytes than its own for none.
func modelDecode(b []byte) (num, seq int, ss []api.State, bad api.Errno) {
	for at := 0; at < len(b); {
		f, size, bad := frame.Decode(b[at:])
		if bad != api.OK {
			return 0, 0, nil, api.ErrBook
		}
		switch f.Kind {
		case api.BookFrame:
			u, _, _ := varint.Decode(f.Body)
			num, seq = f.Seq, int(u)
		case api.StateFrame:
			s, bad := canon.Decode(f.Body)
			if bad != api.OK {
				return 0, 0, nil, api.ErrBook
			}
			ss = append(ss, s)
		}
		at += size
	}
	if num < 1 || num > 999999 || seq < 1 || seq > 1<<40 || !modelValid(ss) || !bytes.Equal(written(num, seq, ss), b) {
		return 0, 0, nil, api.ErrBook
	}
	return num, seq, ss, api.OK
}

func same(a, b api.State) bool {
	la, lb := a.Lines, b.Lines
	a.Lines, b.Lines = nil, nil
	return slices.Equal(la, lb) && a.Order == b.Order && a.Status == b.Status && a.Prior == b.Prior && a.Cur == b.Cur && a.Tax == b.Tax &&
		a.Paid == b.Paid && a.Refunded == b.Refunded && a.Events == b.Events && a.Refused == b.Refused && a.Stamp == b.Stamp && a.Who == b.Who
}

func sameAll(a, b []api.State) bool { return slices.EqualFunc(a, b, same) }

// clone shares nothing with what it is made of.
func clone(ss []api.State) []api.State {
	ss = slices.Clone(ss)
	for i := range ss {
		ss[i].Lines = slices.Clone(ss[i].Lines)
	}
	return ss
}

// refused is the state of the chapter's first example.
func refused() []api.State { return []api.State{{Order: 7, Events: 1, Refused: 1}} }

// three is a book's states of all sorts, at the edges of the orders.
func three() []api.State {
	return []api.State{
		{Order: 1, Events: api.MaxSeq, Refused: api.MaxSeq},
		{Order: 9, Status: api.Held, Prior: api.Paid, Cur: 3, Tax: 5000, Paid: 15, Refunded: 5, Events: 300, Refused: 6, Stamp: 7, Who: "ann-8",
			Lines: []api.Line{{Item: 4, Price: 2, Qty: 5, Shipped: 3}}},
		greatest(),
	}
}

// greatest is the state with the longest record.
func greatest() api.State {
	s := api.State{Order: 1 << 40, Status: api.Held, Prior: api.Paid, Cur: 3, Tax: 5000, Events: 1 << 40, Refused: 1 << 40, Stamp: 1 << 40, Who: strings.Repeat("z", 16)}
	for i := range 16 {
		s.Lines = append(s.Lines, api.Line{Item: 65520 + i, Price: 100000000, Qty: 100000, Shipped: 99999})
	}
	s.Paid, s.Refunded = 240000000000000, 240000000000000
	return s
}

// anyEvents is events of few orders, most of them such as an order can take as it stands by then, some broken.
func anyEvents(r *rand.Rand, n int) []api.Event {
	var states [9]api.State
	for id := range states {
		states[id] = order.Empty(id)
	}
	var es []api.Event
	for range n {
		id := r.Intn(len(states))
		e := anyEvent(r, states[id])
		states[id], _ = order.Apply(states[id], e)
		switch r.Intn(20) {
		case 0:
			e.Order = []int{-1, 0, api.MaxOrder, api.MaxOrder + 1}[r.Intn(4)]
		case 1:
			e.Qty = -1
		case 2:
			e.Kind = []api.Kind{-1, api.NoKind, api.Clear + 1}[r.Intn(3)]
		}
		es = append(es, e)
	}
	return es
}

func anyEvent(r *rand.Rand, s api.State) api.Event {
	kinds := append(order.Allowed(s), api.Kind(1+r.Intn(10)))
	e := api.Event{Kind: kinds[r.Intn(len(kinds))], Order: s.Order, Item: r.Intn(3), Qty: r.Intn(4), Price: 100, Stamp: r.Intn(9), Who: []string{"", "ann", "bob"}[r.Intn(3)]}
	due, _ := order.Due(s)
	switch e.Kind {
	case api.Place:
		e.Cur, e.Tax = r.Intn(3), r.Intn(2)*1000
	case api.Pay:
		e.Price = due - s.Paid
	}
	return e
}

// someStates is a book's states, made by events.
func someStates(r *rand.Rand) []api.State {
	return modelFold(nil, anyEvents(r, r.Intn(60)))
}
