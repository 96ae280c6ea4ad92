package tlv_test

import (
	"bytes"
	"math"
	"math/rand"
	"slices"
	"testing"

	"daybook/api"
	"daybook/tlv"
	"daybook/varint"
)

// record is 1: the number 5, 3: the text ab, 4: the number 3 (-2 with a sign), 31: the text of a nought.
func record() []byte { return []byte{2, 5, 7, 2, 'a', 'b', 8, 3, 63, 1, 0} }

func reader(t *testing.T, b []byte) *tlv.Reader {
	t.Helper()
	r, e := tlv.NewReader(b)
	if e != api.OK || r == nil {
		t.Fatalf("NewReader(%x) = %v, %d", b, r, e)
	}
	return r
}

func holds(t *testing.T, r *tlv.Reader, e api.Errno, rest ...int) {
	t.Helper()
	for range 2 { // asking takes nothing out
		if got := r.Rest(); !slices.Equal(got, rest) {
			t.Errorf("Rest = %v, want %v", got, rest)
		}
		if got := r.Err(); got != e {
			t.Errorf("Err = %d, want %d", got, e)
		}
	}
}

func TestP5_6ReaderTakes(t *testing.T) {
	r := reader(t, record())
	holds(t, r, api.ErrTag, 1, 3, 4, 31)
	if r.Num(1) != 5 || r.Num(1) != 0 || r.Int(1) != 0 || r.Text(1) != nil {
		t.Error("Num")
	}
	holds(t, r, api.ErrTag, 3, 4, 31)
	if r.Int(4) != -2 || r.Int(4) != 0 {
		t.Error("Int")
	}
	if string(r.Text(31)) != "\x00" || len(r.Text(31)) != 0 || r.Num(31) != 0 {
		t.Error("Text")
	}
	holds(t, r, api.ErrTag, 3)
	if string(r.Text(3)) != "ab" {
		t.Error("Text")
	}
	holds(t, r, api.OK)
}

func TestP5_6NoSuchField(t *testing.T) {
	r := reader(t, record())
	for _, tag := range []int{2, 5, 30, 0, -1, 32, math.MinInt, math.MaxInt} {
		if r.Num(tag) != 0 || r.Int(tag) != 0 || len(r.Text(tag)) != 0 {
			t.Errorf("a field of the tag %d", tag)
		}
	}
	holds(t, r, api.ErrTag, 1, 3, 4, 31)
	holds(t, reader(t, nil), api.OK)
	holds(t, reader(t, []byte{}), api.OK)
	holds(t, &tlv.Reader{}, api.OK)
}

func TestP5_6Form(t *testing.T) {
	for _, take := range []func(*tlv.Reader) bool{
		func(r *tlv.Reader) bool { return r.Num(3) == 0 },
		func(r *tlv.Reader) bool { return r.Int(3) == 0 },
	} {
		r := reader(t, record())
		if !take(r) {
			t.Error("a number of a text")
		}
		holds(t, r, api.ErrForm, 1, 4, 31)
		if len(r.Text(3)) != 0 {
			t.Error("the field is still there")
		}
		r.Num(1)
		r.Num(4)
		r.Text(31)
		holds(t, r, api.ErrForm)
	}
	r := reader(t, record())
	if len(r.Text(4)) != 0 {
		t.Error("a text of a number")
	}
	holds(t, r, api.ErrForm, 1, 3, 31)
	if r.Int(4) != 0 {
		t.Error("the field is still there")
	}
	if r.Num(1) != 5 || string(r.Text(3)) != "ab" {
		t.Error("the other fields")
	}
}

func TestP5_6NewReaderRefuses(t *testing.T) {
	for _, b := range [][]byte{{2}, {2, 0}, {2, 5, 2, 5}, {0, 1}, {0x40, 1}, {7, 5, 'a'}, {7, 0xc9, 1}, {0x82, 0, 1}, bytes.Repeat([]byte{0xff}, 11), make([]byte, 1025)} {
		_, _, want := tlv.Decode(b)
		if r, e := tlv.NewReader(b); r != nil || e != want || e == api.OK {
			t.Errorf("NewReader(%x) = %v, %d, want %d", b, r, e, want)
		}
	}
}

func TestP5_6NilReader(t *testing.T) {
	var r *tlv.Reader
	if r.Num(1) != 0 || r.Int(1) != 0 || len(r.Text(1)) != 0 {
		t.Error("a nil reader gives a field")
	}
	holds(t, r, api.ErrArg)
}

func TestP5_6ReaderKeepsNoArgument(t *testing.T) {
	inner, outer := guarded([]byte{3, 2, 'a', 'b', 5, 2, 'c', 'd'})
	kept := slices.Clone(outer)
	r, other := reader(t, inner), reader(t, inner)
	one := r.Text(1)
	clear(one[:cap(one)])
	rest := r.Rest()
	rest[0] = 9
	if !bytes.Equal(outer, kept) {
		t.Errorf("the record has become %x", outer)
	}
	clear(outer)
	if string(r.Text(2)) != "cd" || string(other.Text(1)) != "ab" || r.Err() != api.OK || other.Err() != api.ErrTag {
		t.Error("the readers share memory")
	}
}

func TestP5_6ReaderOfAll(t *testing.T) {
	rnd := rand.New(rand.NewSource(10))
	for range 2000 {
		fs := rightFields(rnd)
		b, e := tlv.Encode(fs)
		if e != api.OK {
			continue
		}
		r := reader(t, b)
		rnd.Shuffle(len(fs), func(i, j int) { fs[i], fs[j] = fs[j], fs[i] })
		for i, f := range fs {
			switch {
			case f.Text && !bytes.Equal(r.Text(f.Tag), f.Bytes):
				t.Fatalf("Text(%d) of %x", f.Tag, b)
			case !f.Text && i%2 == 0 && r.Num(f.Tag) != f.Num:
				t.Fatalf("Num(%d) of %x", f.Tag, b)
			case !f.Text && i%2 == 1 && r.Int(f.Tag) != varint.Zag(f.Num):
				t.Fatalf("Int(%d) of %x", f.Tag, b)
			}
			var left []int
			for _, g := range fs[i+1:] {
				left = append(left, g.Tag)
			}
			slices.Sort(left)
			if !slices.Equal(r.Rest(), left) || (r.Err() == api.OK) != (len(left) == 0) {
				t.Fatalf("Rest = %v, want %v; Err %d", r.Rest(), left, r.Err())
			}
		}
	}
}
