package tlv

import (
	"bytes"

	"daybook/api"
	"daybook/varint"
)

// cursor reads a record from the left. What it can't read it gives up by a panic with the error's number.
type cursor struct {
	b  []byte
	at int // of what comes next
}

func (c *cursor) done() bool { return c.at == len(c.b) }

// field reads a field that stands behind one of the tag ahead.
func (c *cursor) field(ahead int) api.Field {
	head := c.number()
	tag := head / 2
	if tag < 1 || tag > api.MaxTag {
		panic(api.ErrTag)
	}
	f := api.Field{Tag: int(tag), Text: head%2 == 1}
	if f.Tag <= ahead {
		panic(api.ErrOrder)
	}
	second := c.number()
	if second == 0 {
		panic(api.ErrZero)
	}
	if f.Text {
		f.Bytes = c.text(second)
	} else {
		f.Num = second
	}
	return f
}

// number reads a number.
func (c *cursor) number() uint64 {
	u, size, e := varint.Decode(c.b[c.at:])
	if e != api.OK {
		panic(e)
	}
	c.at += size
	return u
}

// text reads so many bytes, and copies them.
func (c *cursor) text(size uint64) []byte {
	if size > api.MaxText {
		panic(api.ErrText)
	}
	end := c.at + int(size)
	if end > len(c.b) {
		panic(api.ErrShort)
	}
	text := bytes.Clone(c.b[c.at:end])
	c.at = end
	return text
}
