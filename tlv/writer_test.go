package tlv_test

import (
	"bytes"
	"math"
	"math/rand"
	"slices"
	"testing"

	"daybook/api"
	"daybook/tlv"
	"daybook/varint"
)

func TestP5_5WriterExamples(t *testing.T) {
	for _, x := range []struct {
		name string
		w    *tlv.Writer
		b    []byte
		e    api.Errno
	}{
		{"none", tlv.NewWriter(), nil, api.OK},
		{"a zero value", &tlv.Writer{}, nil, api.OK},
		{"0 leaves no trace", tlv.NewWriter().Num(2, 0).Num(1, 9), []byte{2, 9}, api.OK},
		{"Int 0 leaves no trace", tlv.NewWriter().Int(2, 0).Num(1, 9), []byte{2, 9}, api.OK},
		{"a text of nothing leaves no trace", tlv.NewWriter().Text(2, nil).Text(3, []byte{}).Num(1, 9), []byte{2, 9}, api.OK},
		{"0 at a tag that is kept", tlv.NewWriter().Num(2, 1).Num(2, 0), nil, api.ErrOrder},
		{"0 at a lower tag", tlv.NewWriter().Num(2, 1).Int(1, 0), nil, api.ErrOrder},
		{"no text at a lower tag", tlv.NewWriter().Num(2, 1).Text(1, nil), nil, api.ErrOrder},
		{"0 above, then what stands between", tlv.NewWriter().Num(2, 1).Num(9, 0).Num(3, 1), []byte{4, 1, 6, 1}, api.OK},
		{"0 at no tag", tlv.NewWriter().Num(0, 0), nil, api.ErrTag},
		{"no text at no tag", tlv.NewWriter().Text(32, nil), nil, api.ErrTag},
		{"Int", tlv.NewWriter().Int(4, -2).Text(5, []byte("x")), []byte{8, 3, 11, 1, 'x'}, api.OK},
		{"Int of the lowest", tlv.NewWriter().Int(1, math.MinInt64), append([]byte{2}, varint.Encode(math.MaxUint64)...), api.OK},
		{"Int of the highest", tlv.NewWriter().Int(1, math.MaxInt64), append([]byte{2}, varint.Encode(math.MaxUint64-1)...), api.OK},
		{"all tags but one", tlv.NewWriter().Num(1, 1).Num(31, 1), []byte{2, 1, 62, 1}, api.OK},
		{"tag 32", tlv.NewWriter().Num(32, 1), nil, api.ErrTag},
		{"tag below 0", tlv.NewWriter().Int(-1, 1), nil, api.ErrTag},
		{"order", tlv.NewWriter().Num(2, 1).Text(2, []byte("a")), nil, api.ErrOrder},
		{"text", tlv.NewWriter().Text(1, bytes.Repeat([]byte{1}, 201)), nil, api.ErrText},
		{"tag ahead of text", tlv.NewWriter().Text(0, bytes.Repeat([]byte{1}, 201)), nil, api.ErrTag},
		{"order ahead of text", tlv.NewWriter().Num(1, 1).Text(1, bytes.Repeat([]byte{1}, 201)), nil, api.ErrOrder},
		{"the first error stays", tlv.NewWriter().Num(0, 1).Text(1, bytes.Repeat([]byte{1}, 201)).Num(5, 1), nil, api.ErrTag},
		{"what is behind the error does not count", tlv.NewWriter().Num(2, 1).Num(1, 1).Num(0, 1), nil, api.ErrOrder},
	} {
		for range 2 { // it may be asked again
			if b, e := x.w.Done(); e != x.e || !bytes.Equal(b, x.b) {
				t.Errorf("%s: Done = %x, %d, want %x, %d", x.name, b, e, x.b, x.e)
			}
		}
	}
}

func TestP5_5WriterAnswersItself(t *testing.T) {
	w := tlv.NewWriter()
	if w.Num(1, 1) != w || w.Int(2, 1) != w || w.Text(3, []byte("a")) != w || w.Num(4, 0) != w || w.Num(0, 1) != w || w.Text(5, nil) != w {
		t.Error("a call does not answer its writer")
	}
}

func TestP5_5FieldsBehindDone(t *testing.T) {
	w := tlv.NewWriter().Num(1, 1)
	first, _ := w.Done()
	second, _ := w.Text(2, []byte("a")).Done()
	if _, e := w.Num(2, 5).Done(); e != api.ErrOrder {
		t.Errorf("Done = %d", e)
	}
	if b, e := w.Num(9, 5).Done(); e != api.ErrOrder || len(b) != 0 {
		t.Errorf("Done behind an error = %x, %d", b, e)
	}
	if !bytes.Equal(first, []byte{2, 1}) || !bytes.Equal(second, []byte{2, 1, 5, 1, 'a'}) {
		t.Errorf("Done = %x, then %x", first, second)
	}
}

func TestP5_5DoneIsBig(t *testing.T) {
	w := tlv.NewWriter()
	for tag := 1; tag <= 5; tag++ {
		w.Text(tag, bytes.Repeat([]byte{1}, 200))
	}
	if b, e := w.Done(); e != api.OK || len(b) != 1015 {
		t.Errorf("Done = %d bytes, %d", len(b), e)
	}
	w.Text(6, bytes.Repeat([]byte{1}, 8))
	if b, e := w.Done(); e != api.ErrBig || len(b) != 0 {
		t.Errorf("Done = %d bytes, %d", len(b), e)
	}
	if _, e := w.Num(6, 1).Done(); e != api.ErrOrder { // too large is no field's error: the next one is still looked at
		t.Errorf("Done = %d", e)
	}
}

func TestP5_5WriterCopies(t *testing.T) {
	inner, outer := guarded([]byte("ab"))
	kept := slices.Clone(outer)
	w := tlv.NewWriter().Text(1, inner).Text(2, inner)
	if !bytes.Equal(outer, kept) {
		t.Errorf("Text has changed its argument: %x", outer)
	}
	clear(outer)
	b, _ := w.Done()
	clear(b[:cap(b)])
	want := []byte{3, 2, 'a', 'b', 5, 2, 'a', 'b'}
	if b, e := w.Done(); e != api.OK || !bytes.Equal(b, want) {
		t.Errorf("Done = %x, %d, want %x", b, e, want)
	}
}

func TestP5_5WritersDoNotMeet(t *testing.T) {
	a, b := tlv.NewWriter(), tlv.NewWriter()
	a.Num(3, 1)
	b.Num(0, 1)
	if x, e := a.Num(4, 1).Done(); e != api.OK || !bytes.Equal(x, []byte{6, 1, 8, 1}) {
		t.Errorf("Done = %x, %d", x, e)
	}
}

func TestP5_5NilWriter(t *testing.T) {
	var w *tlv.Writer
	if w.Num(1, 1) != nil || w.Int(1, 1) != nil || w.Text(1, []byte("a")) != nil || w.Num(0, 0) != nil {
		t.Error("a nil writer answers another")
	}
	if b, e := w.Done(); len(b) != 0 || e != api.ErrArg {
		t.Errorf("Done = %x, %d", b, e)
	}
}

func TestP5_5WriterIsEncode(t *testing.T) {
	r := rand.New(rand.NewSource(9))
	for range 3000 {
		w := tlv.NewWriter()
		var kept []api.Field
		wrong := api.OK
		for range r.Intn(10) {
			f := number(r.Intn(len(kept)*4+8)-1, r.Uint64()>>r.Intn(64)*uint64(r.Intn(3)))
			if r.Intn(2) == 0 {
				f = text(f.Tag, long(r.Intn(4)*r.Intn(70)))
				w.Text(f.Tag, f.Bytes)
			} else {
				w.Num(f.Tag, f.Num)
			}
			_, e := tlv.Encode(append(slices.Clone(kept), f))
			switch {
			case wrong != api.OK || e == api.ErrZero:
			case e == api.OK || e == api.ErrBig:
				kept = append(kept, f)
			default:
				wrong = e
			}
			want, e := tlv.Encode(kept)
			if wrong != api.OK {
				want, e = nil, wrong
			}
			if b, got := w.Done(); got != e || !bytes.Equal(b, want) {
				t.Fatalf("Done = %x, %d, want %x, %d", b, got, want, e)
			}
		}
	}
}
