package tlv

import (
	"maps"
	"slices"

	"daybook/api"
	"daybook/varint"
)

// Reader answers for the fields of a record by their tags.
type Reader struct {
	fields map[int]api.Field // by tag, those that were not taken
	err    api.Errno         // ErrForm, once a field was taken as what it is not
}

// NewReader reads a record.
func NewReader(b []byte) (*Reader, api.Errno) {
	fs, _, e := Decode(b)
	if e != api.OK {
		return nil, e
	}
	r := &Reader{fields: make(map[int]api.Field, len(fs))}
	for _, f := range fs {
		r.fields[f.Tag] = f
	}
	return r, api.OK
}

// Num takes the number of that tag.
func (r *Reader) Num(tag int) uint64 { return r.take(tag, false).Num }

// Int takes the number with a sign of that tag.
func (r *Reader) Int(tag int) int64 { return varint.Zag(r.take(tag, false).Num) }

// Text takes the text of that tag.
func (r *Reader) Text(tag int) []byte { return r.take(tag, true).Bytes }

// take takes a field out, and gives it if it is what was asked for, a text or a number.
func (r *Reader) take(tag int, text bool) api.Field {
	if r == nil {
		return api.Field{}
	}
	f, ok := r.fields[tag]
	if !ok {
		return api.Field{}
	}
	delete(r.fields, tag)
	if f.Text != text {
		r.err = api.ErrForm
		return api.Field{}
	}
	return f
}

// Rest is the tags that were not taken.
func (r *Reader) Rest() []int {
	if r == nil {
		return nil
	}
	return slices.Sorted(maps.Keys(r.fields))
}

// Err is ErrForm, if a number was taken as a text or a text as a number; else ErrTag, if a tag was not taken.
func (r *Reader) Err() api.Errno {
	switch {
	case r == nil:
		return api.ErrArg
	case r.err != api.OK:
		return r.err
	case len(r.fields) > 0:
		return api.ErrTag
	}
	return api.OK
}
