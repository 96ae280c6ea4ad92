package store_test

import (
	"bytes"
	"fmt"
	"math"
	"math/rand"
	"reflect"
	"slices"
	"testing"

	"daybook/api"
	"daybook/schema"
	"daybook/segment"
	"daybook/simfs"
	"daybook/store"
)

func TestP19_8And9Example(t *testing.T) {
	s := opened(t, simfs.New(1000), 2, 2)
	for i := 7; i <= 9; i++ {
		s.Append(5, place(i))
	}
	want := []api.Record{{Seq: 2, Event: place(8)}, {Seq: 3, Event: place(9)}}
	if records, bad := s.Read(2); !slices.Equal(records, want) || bad != api.OK || s.Decoded() != 3 {
		t.Errorf("Read(2) = %v, %d, through %d frames", records, bad, s.Decoded())
	}
	if records, bad := s.Read(4); len(records) != 0 || bad != api.OK || s.Decoded() != 0 {
		t.Errorf("Read(4) = %v, %d, through %d frames", records, bad, s.Decoded())
	}
	for _, from := range []int{5, 0} {
		if records, bad := s.Read(from); len(records) != 0 || bad != api.ErrArg {
			t.Errorf("Read(%d) = %v, %d", from, records, bad)
		}
	}
}

// shops is stores of several forms.
func shops() []shop {
	return []shop{
		stocked(0, 1, 0), stocked(0, 1, 1), stocked(0, 3, 10), stocked(0, 1, 3, 0), stocked(0, 2, 5, 4), stocked(0, 64, 5, 4, 0), stocked(0, 3, 1, 1, 1, 1),
		stocked(20, 3, 0), stocked(20, 3, 7, 7, 7), stocked(1, 2, 8, 1, 0), stocked(20, 64, 70, 130, 5),
		stocked(api.MaxSeq-40, 4, 9, 31), stocked(api.MaxSeq-40, 4, 9, 31, 0), stocked(api.MaxSeq, 1, 0),
	}
}

// end is the number of a shop's last event.
func (s shop) end() int {
	g := s.m.Segs[len(s.m.Segs)-1]
	head, _ := segment.Header(g.Num, g.First)
	return g.First - 1 + (len(s.files[file(g.Num)])-len(head))/25
}

func TestP19_8FromEachNumber(t *testing.T) {
	for _, shop := range shops() {
		for _, stride := range []int{1, 2, 7, 64} {
			fs := shop.disk(t, 0)
			s := opened(t, fs, stride, 512)
			steps, last := fs.Steps(), shop.end()
			if s.Last() != last {
				t.Fatalf("%v: Last %d, not %d", shop.m, s.Last(), last)
			}
			for _, from := range []int{math.MinInt, -1, 0, last + 2, last + 3, math.MaxInt} {
				refused(t, fmt.Sprint("Read ", from), s, api.ErrArg, func() api.Errno { _, bad := s.Read(from); return bad })
			}
			for from := max(1, shop.m.Floor-30); from <= shop.m.Floor; from++ {
				refused(t, fmt.Sprint("Read ", from), s, api.ErrCompacted, func() api.Errno { _, bad := s.Read(from); return bad })
			}
			for from := shop.m.Floor + 1; from <= last+1; from++ {
				records, bad := s.Read(from)
				if len(records) != last+1-from || bad != api.OK {
					t.Fatalf("%v: Read(%d) = %v, %d", shop.m, from, records, bad)
				}
				for i, x := range records {
					if x != (api.Record{Seq: from + i, Event: place(1 + (from+i-shop.m.Floor-1)%100)}) {
						t.Fatalf("%v: Read(%d): at %d stands %v", shop.m, from, i, x)
					}
				}
				if s.Decoded() < len(records) || s.Decoded() > len(records)+strideOf(t, fs, shop.m, stride, from)-1 {
					t.Errorf("%v: Read(%d) has gone through %d frames for %d", shop.m, from, s.Decoded(), len(records))
				}
				if len(records) == 0 && s.Decoded() != 0 {
					t.Errorf("%v: Read(%d) has gone through %d frames for none", shop.m, from, s.Decoded())
				}
			}
			if fs.Steps() != steps {
				t.Errorf("Read has made %d steps", fs.Steps()-steps)
			}
		}
	}
}

// strideOf is the stride of the segment that holds a number; that of the config, if it is the active one.
func strideOf(t *testing.T, fs *simfs.FS, m api.Manifest, stride, seq int) int {
	t.Helper()
	for _, g := range m.Segs {
		if g.Count > 0 && g.First <= seq && seq < g.First+g.Count {
			found, _, bad := segment.Scan(bytesOf(fs, file(g.Num)))
			if bad != api.OK || !found.Sealed {
				t.Fatalf("segment %d isn't sealed", g.Num)
			}
			return found.Stride
		}
	}
	return stride
}

// What was appended is read at once, pending or not; the marks of the active segment grow with it.
func TestP19_8And9WhileItGrows(t *testing.T) {
	for _, cfg := range []api.Config{{Stride: 1, SegEvents: 1}, {Stride: 3, SegEvents: 7}, {Stride: 4, SegEvents: 4}, {Stride: 64, SegEvents: 512}, {Stride: 5, SegEvents: 512}} {
		r := rand.New(rand.NewSource(9))
		fs := simfs.New(api.MaxRoom)
		s := opened(t, fs, cfg.Stride, cfg.SegEvents)
		var want []api.Record
		for n := 1; n <= 90; n++ {
			v, e := someEvent(r)
			raw, _ := schema.Pack(v, e)
			if got, bad := s.Put(raw); got != n || bad != api.OK {
				t.Fatalf("%v: Put = %d, %d", cfg, got, bad)
			}
			want = append(want, api.Record{Seq: n, Event: broughtUp(raw)})
			for _, from := range []int{1, n - cfg.Stride, n - 1, n, n + 1, 1 + r.Intn(n)} {
				from = max(from, 1)
				records, bad := s.Read(from)
				if !slices.Equal(records, want[from-1:]) || bad != api.OK {
					t.Fatalf("%v: Read(%d) = %v, %d", cfg, from, records, bad)
				}
				if s.Decoded() < len(records) || len(records) > 0 && s.Decoded() > len(records)+cfg.Stride-1 {
					t.Errorf("%v: Read(%d) has gone through %d frames for %d", cfg, from, s.Decoded(), len(records))
				}
			}
		}
	}
}

func TestP19_9TheLastReadThatWentWell(t *testing.T) {
	s := opened(t, stocked(3, 2, 4, 3).disk(t, 1000), 2, 9)
	if s.Decoded() != 0 {
		t.Errorf("ahead of the first Read: %d", s.Decoded())
	}
	for _, x := range []struct {
		from, want int
		bad        api.Errno
	}{
		{0, 0, api.ErrArg}, {5, 7, api.OK}, {2, 7, api.ErrCompacted}, {99, 7, api.ErrArg}, {6, 5, api.OK}, {7, 5, api.OK}, {3, 5, api.ErrCompacted}, {8, 3, api.OK}, {9, 3, api.OK}, {10, 1, api.OK}, {11, 0, api.OK}, {4, 7, api.OK},
	} {
		if _, bad := s.Read(x.from); bad != x.bad || s.Decoded() != x.want {
			t.Errorf("Read(%d): %d, through %d frames, not %d, %d", x.from, bad, s.Decoded(), x.bad, x.want)
		}
	}
	s.Append(5, place(1))
	s.Sync()
	s.Rotate()
	if s.Decoded() != 7 {
		t.Errorf("behind other calls: %d", s.Decoded())
	}
	s.Close()
	if s.Decoded() != 0 {
		t.Errorf("behind Close: %d", s.Decoded())
	}
}

// turned is a shop in which one bit of a file is turned.
func turned(s shop, name string, bit int) shop {
	files := map[string][]byte{}
	for other, b := range s.files {
		files[other] = b
	}
	b := bytes.Clone(s.files[name])
	b[bit/8] ^= 1 << (bit % 8)
	files[name] = b
	return shop{m: s.m, files: files}
}

// holding is the number of the event whose frame holds a byte of a segment of 25-byte frames; 0: it is in the header.
func holding(first, at int) int {
	if at < 22 {
		return 0
	}
	return first + (at-22)/25
}

func TestP19_8ATurnedBitInASealedSegment(t *testing.T) {
	whole := stocked(0, 3, 4, 7, 2)
	for i, g := range whole.m.Segs[:2] {
		name := file(g.Num)
		for bit := range 8 * len(whole.files[name]) {
			fs := turned(whole, name, bit).disk(t, 100)
			s, bad := store.Open(fs, api.Config{Stride: 2, SegEvents: 9})
			hit := holding(g.First, bit/8)
			if hit == 0 || bit/8 >= g.Foot {
				if s != nil || bad != api.ErrCorrupt {
					t.Fatalf("bit %d of the ends of %s: Open = %v, %d", bit, name, s, bad)
				}
				continue
			}
			if bad != api.OK {
				t.Fatalf("bit %d of %s: Open: %d", bit, name, bad)
			}
			for from := 1; from <= 14; from++ {
				start := g.First // from where the events of this segment are gone through
				if from > start {
					start += (from - start) / 3 * 3
				}
				records, bad := s.Read(from)
				if corrupt := from < g.First+g.Count && hit >= start; corrupt && (bad != api.ErrCorrupt || len(records) > 0) {
					t.Fatalf("segment %d, bit %d, event %d: Read(%d) = %v, %d", i, bit, hit, from, records, bad)
				} else if !corrupt && (bad != api.OK || len(records) != 14-from) {
					t.Fatalf("segment %d, bit %d, event %d: Read(%d) = %v, %d", i, bit, hit, from, records, bad)
				}
			}
			if s.Closed() || s.Last() != 13 {
				t.Fatalf("a refused Read has changed the store: Last %d", s.Last())
			}
		}
	}
}

func TestP19_8ATurnedBitInTheActiveOne(t *testing.T) {
	whole := stocked(0, 3, 4, 3)
	for bit := range 8 * len(whole.files[file(7)]) {
		fs := turned(whole, file(7), bit).disk(t, 100)
		s, bad := store.Open(fs, api.Config{Stride: 2, SegEvents: 9})
		hit := holding(5, bit/8)
		if hit == 0 {
			if s != nil || bad != api.ErrCorrupt {
				t.Fatalf("bit %d of the header: Open = %v, %d", bit, s, bad)
			}
			continue
		}
		if bad != api.OK || s.Last() != hit-1 {
			t.Fatalf("bit %d: Open: %d, %v", bit, bad, s)
		}
		if records, bad := s.Read(1); bad != api.OK || len(records) != hit-1 {
			t.Fatalf("bit %d: Read = %v, %d", bit, records, bad)
		}
		if n, bad := s.Append(5, place(50)); n != hit || bad != api.OK {
			t.Fatalf("bit %d: Append = %d, %d", bit, n, bad)
		}
	}
}

// spoilt is shops whose sums are all right, but which are not as they were written; corrupt tells from which numbers on a Read must be refused.
func spoilt() map[string]struct {
	shop    shop
	corrupt func(from int) bool
} {
	type spoiled = struct {
		shop    shop
		corrupt func(from int) bool
	}
	out := map[string]spoiled{}
	lay := func(s shop, i, seq int, f []byte) { // a frame in the place of an event's
		g := s.m.Segs[i]
		copy(s.files[file(g.Num)][22+25*(seq-g.First):], f)
	}
	below := func(n int) func(int) bool { return func(from int) bool { return from <= n } }

	s := stocked(0, 3, 7, 4, 2)
	lay(s, 0, 5, framed(api.EventFrame, 5, []byte{6, 2, 1, 4, 7}))
	out["an event of version 6"] = spoiled{s, below(5)}

	s = stocked(0, 3, 7, 4, 2)
	lay(s, 0, 5, framed(api.EventFrame, 6, packed(1)))
	out["another number"] = spoiled{s, below(7 - 1)} // up to the mark of 7

	s = stocked(0, 3, 7, 4, 2)
	lay(s, 0, 4, framed(api.StateFrame, 4, packed(1)))
	out["another kind"] = spoiled{s, below(6)}

	s = stocked(0, 3, 7, 4, 2)
	lay(s, 1, 11, framed(api.EventFrame, 11, []byte{5, 2, 1, 4, 0}))
	out["no event in the last frame"] = spoiled{s, below(11)}

	s = stocked(0, 3, 7, 4, 2)
	lay(s, 2, 12, framed(api.EventFrame, 12, []byte{0, 0, 0, 0, 0}))
	out["no event in the active segment"] = spoiled{s, below(12)}

	s = stocked(0, 3, 7, 4, 2)
	s.resealed(0, 3, api.Mark{Seq: 1, At: 22}, api.Mark{Seq: 4, At: 98}, api.Mark{Seq: 7, At: 172})
	out["a mark one byte off"] = spoiled{s, below(6)}

	s = stocked(0, 3, 7, 4, 2)
	s.resealed(0, 3, api.Mark{Seq: 1, At: 22}, api.Mark{Seq: 4, At: 97}, api.Mark{Seq: 7, At: 147})
	out["a mark one event off"] = spoiled{s, below(7)}

	s = stocked(0, 3, 7, 4, 2)
	s.resealed(1, 2, api.Mark{Seq: 8, At: 22}, api.Mark{Seq: 10, At: 96})
	out["a mark of the second segment"] = spoiled{s, below(11)}

	// Two bytes stand between the last event and the footer.
	s = stocked(0, 3, 7, 4, 2)
	b := s.files[file(5)]
	s.files[file(5)] = slices.Concat(b[:197], []byte{1, 2}, b[197:])
	s.m.Segs[0].Foot += 2
	out["bytes ahead of the footer"] = spoiled{s, below(7)}

	// The footer and the manifest speak of fewer events than there are.
	s = stocked(0, 3, 7, 4, 2)
	s.m.Segs = slices.Clone(s.m.Segs[:1])
	s.m.Segs[0].Count = 6
	s.m.Segs = append(s.m.Segs, api.Seg{Num: 7, First: 7})
	s.files[file(7)] = framed(api.HeaderFrame, 7, numbers(7, 7))
	s.resealed(0, 3, api.Mark{Seq: 1, At: 22}, api.Mark{Seq: 4, At: 97})
	delete(s.files, file(9))
	out["an event too many"] = spoiled{s, below(6)}

	// They speak of more.
	s = stocked(0, 64, 7, 4, 2)
	s.m.Segs = []api.Seg{s.m.Segs[0], {Num: 7, First: 9}}
	s.m.Segs[0].Count = 8
	s.files[file(7)] = framed(api.HeaderFrame, 7, numbers(7, 9))
	s.resealed(0, 64, api.Mark{Seq: 1, At: 22})
	delete(s.files, file(9))
	out["an event too few"] = spoiled{s, below(8)}
	return out
}

func TestP19_8WhatWasForged(t *testing.T) {
	for what, x := range spoilt() {
		for _, stride := range []int{1, 2} {
			s := opened(t, x.shop.disk(t, 1000), stride, 9)
			for from := 1; from <= s.Last()+1; from++ {
				if x.corrupt(from) {
					refused(t, fmt.Sprint(what, ", from ", from), s, api.ErrCorrupt, func() api.Errno {
						records, bad := s.Read(from)
						if len(records) > 0 {
							t.Errorf("%s: Read(%d) gives out %v", what, from, records)
						}
						return bad
					})
				} else if records, bad := s.Read(from); bad != api.OK || len(records) != s.Last()+1-from {
					t.Errorf("%s: Read(%d) = %v, %d", what, from, records, bad)
				}
			}
		}
	}
}

// A segment that holds nothing of what is asked for isn't looked at.
func TestP19_8WhatIsNotAskedFor(t *testing.T) {
	fs := stocked(0, 2, 4, 3, 2).disk(t, 1000)
	s := opened(t, fs, 2, 9)
	m := s.Manifest()
	m.Gen, m.Segs[0].Num = m.Gen+1, 4 // there is no such file
	if bad := s.Swap(m); bad != api.OK {
		t.Fatalf("Swap: %d", bad)
	}
	for from := 1; from <= 10; from++ {
		records, bad := s.Read(from)
		if from <= 4 && (len(records) != 0 || bad != api.ErrCorrupt) || from > 4 && (len(records) != 10-from || bad != api.OK) {
			t.Errorf("Read(%d) = %v, %d", from, records, bad)
		}
	}
}

// Whatever the bytes: all calls end, and what is given out is right events of rising numbers.
func TestP4WhateverLiesThere(t *testing.T) {
	r := rand.New(rand.NewSource(4))
	open, corrupt := 0, 0
	for range 6000 {
		list := shops()
		shop := list[r.Intn(len(list))]
		for range 1 + r.Intn(3) {
			spoil(r, shop)
		}
		fs := shop.disk(t, 200)
		ahead := fs.Used()
		s, bad := store.Open(fs, api.Config{Stride: 1 + r.Intn(5), SegEvents: 1 + r.Intn(9)})
		if fs.ReadBytes() > 3*ahead+100 {
			t.Fatalf("Open has read %d bytes where %d lay", fs.ReadBytes(), ahead)
		}
		if bad != api.OK {
			continue
		}
		open++
		s.Append(5, place(1))
		s.Rotate()
		for range 5 {
			from := s.Floor() + 1 + r.Intn(s.Last()-s.Floor()+1)
			records, bad := s.Read(from)
			if bad == api.ErrCorrupt {
				corrupt++
				continue
			}
			for i, x := range records {
				if x.Seq != from+i || schema.Check(5, x.Event) != api.OK {
					t.Fatalf("Read(%d) gives out %v", from, x)
				}
			}
			if bad != api.OK || len(records) != s.Last()+1-from {
				t.Fatalf("Read(%d) = %d records, %d", from, len(records), bad)
			}
		}
	}
	if open < 500 || corrupt < 500 {
		t.Errorf("%d stores were opened, %d reads were corrupt", open, corrupt)
	}
}

// spoil changes something in one of a shop's files, most often so that the sums still fit.
func spoil(r *rand.Rand, s shop) {
	var list []string
	for name := range s.files {
		list = append(list, name)
	}
	slices.Sort(list)
	name := list[r.Intn(len(list))]
	b := bytes.Clone(s.files[name])
	if len(b) == 0 {
		return
	}
	at := r.Intn(len(b))
	switch r.Intn(5) {
	case 0:
		b[at] ^= byte(1 + r.Intn(255))
	case 1:
		b = b[:at]
	default: // a frame of its own behind the header
		if len(b) > 60 {
			at := 22 + 25*r.Intn((len(b)-47)/25+1)
			copy(b[at:], framed(1+r.Intn(2)*r.Intn(7), s.m.Floor+r.Intn(40), []byte{byte(1 + r.Intn(6)), 2, byte(r.Intn(12)), 4, byte(r.Intn(3))}))
		}
	}
	s.files[name] = b
}

func TestRule4RecordsAreNewMemory(t *testing.T) {
	s := opened(t, stocked(0, 2, 4, 3).disk(t, 1000), 2, 9)
	want, _ := s.Read(2)
	want = slices.Clone(want)
	records, _ := s.Read(2)
	clear(records[:cap(records)])
	if again, bad := s.Read(2); !reflect.DeepEqual(again, want) || bad != api.OK {
		t.Errorf("Read = %v, %d, not %v", again, bad, want)
	}
}
