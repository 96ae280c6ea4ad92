package schema

import (
	"daybook/api"
	"daybook/tlv"
)

// version is what is asked of a version. V1 answers all of it; a later one answers by what it embeds, but for what has changed with it.
type version interface {
	lastKind() api.Kind
	leastQty() int
	mostPrice() int
	putQty(w *tlv.Writer, qty int)
	takeQty(r *tlv.Reader) int
	take(r *tlv.Reader) api.Event // all its fields but the quantity
}

// find is the version of that number, if there is one.
func find(v int) (version, bool) {
	switch v {
	case 1:
		return V1{}, true
	case 2:
		return V2{}, true
	case 3:
		return V3{}, true
	case 4:
		return V4{}, true
	case 5:
		return V5{}, true
	}
	return nil, false
}

func (v V1) lastKind() api.Kind { return api.Cancel }
func (v V3) lastKind() api.Kind { return api.Refund }
func (v V4) lastKind() api.Kind { return api.Release }
func (v V5) lastKind() api.Kind { return api.Clear }

func (v V1) leastQty() int { return -api.MaxQty }
func (v V3) leastQty() int { return 0 }

func (v V1) mostPrice() int { return api.MaxUnits }
func (v V2) mostPrice() int { return api.MaxPrice }

func (v V1) putQty(w *tlv.Writer, qty int) { w.Int(tagQty, int64(qty)) }
func (v V3) putQty(w *tlv.Writer, qty int) { w.Num(tagQty, uint64(qty)) }

func (v V1) takeQty(r *tlv.Reader) int { return int(r.Int(tagQty)) }
func (v V3) takeQty(r *tlv.Reader) int { return number(r, tagQty) }

func (v V1) take(r *tlv.Reader) api.Event {
	return api.Event{
		Kind:  api.Kind(number(r, tagKind)),
		Order: number(r, tagOrder),
		Item:  number(r, tagItem),
		Price: number(r, tagPrice),
	}
}

func (v V2) take(r *tlv.Reader) api.Event {
	e := v.V1.take(r)
	e.Cur = number(r, tagCur)
	return e
}

func (v V3) take(r *tlv.Reader) api.Event {
	e := v.V2.take(r)
	e.Tax = number(r, tagTax)
	return e
}

func (v V4) take(r *tlv.Reader) api.Event {
	e := v.V3.take(r)
	e.Who = string(r.Text(tagWho))
	return e
}

func (v V5) take(r *tlv.Reader) api.Event {
	e := v.V4.take(r)
	e.Stamp, e.Note = number(r, tagStamp), string(r.Text(tagNote))
	return e
}
