package schema

import (
	"daybook/api"
	"daybook/tlv"
	"daybook/varint"
)

// The tags of an event's fields.
const (
	tagKind = iota + 1
	tagOrder
	tagItem
	tagQty
	tagPrice
	tagCur
	tagTax
	tagWho
	tagStamp
	tagNote
)

// most is what a greater number counts as: it fits an int, and is out of the bounds of every field.
const most = 1 << 62

// Encode is the record of an event.
func Encode(v int, e api.Event) ([]byte, api.Errno) {
	if bad := Check(v, e); bad != api.OK {
		return nil, bad
	}
	is, _ := find(v)
	w := tlv.NewWriter()
	w.Num(tagKind, uint64(e.Kind)).Num(tagOrder, uint64(e.Order)).Num(tagItem, uint64(e.Item))
	is.putQty(w, e.Qty)
	// What the version doesn't have is zero, and the writer leaves it out.
	w.Num(tagPrice, uint64(e.Price)).Num(tagCur, uint64(e.Cur)).Num(tagTax, uint64(e.Tax))
	w.Text(tagWho, []byte(e.Who)).Num(tagStamp, uint64(e.Stamp)).Text(tagNote, []byte(e.Note))
	return w.Done()
}

// Decode reads the record of an event.
func Decode(v int, b []byte) (api.Event, api.Errno) {
	is, ok := find(v)
	if !ok {
		return api.Event{}, api.ErrVersion
	}
	r, bad := tlv.NewReader(b)
	if bad != api.OK {
		return api.Event{}, bad
	}
	e := is.take(r)
	e.Qty = is.takeQty(r)
	if bad := r.Err(); bad != api.OK {
		return api.Event{}, bad
	}
	if bad := Check(v, e); bad != api.OK {
		return api.Event{}, bad
	}
	return e, api.OK
}

// number takes a number out of the reader.
func number(r *tlv.Reader, tag int) int { return capped(r.Num(tag)) }

func capped(u uint64) int { return int(min(u, most)) }

// Pack is the version and the record.
func Pack(v int, e api.Event) ([]byte, api.Errno) {
	record, bad := Encode(v, e)
	if bad != api.OK {
		return nil, bad
	}
	return append(varint.Encode(uint64(v)), record...), api.OK
}

// Unpack reads the version and the record.
func Unpack(b []byte) (int, api.Event, api.Errno) {
	u, size, bad := varint.Decode(b)
	if bad != api.OK {
		return 0, api.Event{}, bad
	}
	v := capped(u)
	e, bad := Decode(v, b[size:])
	if bad != api.OK {
		return 0, api.Event{}, bad
	}
	return v, e, api.OK
}
