package tlv

import (
	"bytes"

	"daybook/api"
	"daybook/varint"
)

// Writer takes fields of rising tags; a field that holds nothing is left out.
type Writer struct {
	fields []api.Field
	last   int // the tag of the last field that was kept
	err    api.Errno
}

// NewWriter is a writer without fields.
func NewWriter() *Writer { return &Writer{} }

// Num puts a number.
func (w *Writer) Num(tag int, v uint64) *Writer {
	return w.keep(api.Field{Tag: tag, Num: v})
}

// Int puts a number with a sign.
func (w *Writer) Int(tag int, v int64) *Writer {
	return w.keep(api.Field{Tag: tag, Num: varint.Zig(v)})
}

// Text puts a text.
func (w *Writer) Text(tag int, b []byte) *Writer {
	return w.keep(api.Field{Tag: tag, Text: true, Bytes: b})
}

// keep takes a field, its bytes copied, unless it holds nothing or an error has come.
func (w *Writer) keep(f api.Field) *Writer {
	if w == nil || w.err != api.OK {
		return w
	}
	switch e := check(f, w.last); e {
	case api.OK:
		f.Bytes = bytes.Clone(f.Bytes)
		w.fields = append(w.fields, f)
		w.last = f.Tag
	case api.ErrZero:
	default:
		w.fields, w.err = nil, e // the fields can't be asked for any more
	}
	return w
}

// Done is the record of what was put so far.
func (w *Writer) Done() ([]byte, api.Errno) {
	if w == nil {
		return nil, api.ErrArg
	}
	if w.err != api.OK {
		return nil, w.err
	}
	return Encode(w.fields)
}
