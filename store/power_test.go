package store_test

import (
	"fmt"
	"math/rand"
	"slices"
	"testing"

	"daybook/api"
	"daybook/schema"
	"daybook/simfs"
	"daybook/store"
	"daybook/upcast"
)

func broughtUp(raw []byte) api.Event {
	e, bad := upcast.Read(raw)
	if bad != api.OK {
		panic(bad)
	}
	return e
}

// history is what was appended, of which the first safe ones must outlive a loss of power.
type history struct {
	events []api.Event
	safe   int
}

// do is one of the calls by which a history grows, chosen by a number; a false: the power has failed in it.
func (h *history) do(t *testing.T, s *store.Store, what int, raw []byte) bool {
	t.Helper()
	var bad api.Errno
	switch what {
	case 0:
		bad = s.Sync()
	case 1:
		bad = s.Rotate()
	case 2:
		m := s.Manifest()
		m.Gen++
		if bad := s.Swap(m); bad != api.OK { // it makes no event safe
			return bad != api.ErrDown
		}
		return true
	default:
		n, bad := s.Put(raw)
		if bad == api.OK && n != len(h.events)+1 {
			t.Fatalf("Put = %d, not %d", n, len(h.events)+1)
		}
		if bad == api.OK || bad == api.ErrDown { // the one within which the power fails may be there
			h.events = append(h.events, broughtUp(raw))
		}
		return bad != api.ErrDown
	}
	if bad == api.OK {
		h.safe = len(h.events)
	}
	return bad != api.ErrDown
}

// found holds what is opened behind a loss of power to the history, and goes on from there.
func (h *history) found(t *testing.T, what string, s *store.Store) {
	t.Helper()
	last := s.Last()
	if last < h.safe || last > len(h.events) {
		t.Fatalf("%s: %d events are there, %d were safe, %d were appended", what, last, h.safe, len(h.events))
	}
	records, bad := s.Read(1)
	if len(records) != last || bad != api.OK {
		t.Fatalf("%s: Read = %v, %d", what, records, bad)
	}
	for i, x := range records {
		if x != (api.Record{Seq: i + 1, Event: h.events[i]}) {
			t.Fatalf("%s: at %d stands %v, not %v", what, i, x, h.events[i])
		}
	}
	h.events, h.safe = h.events[:last], last
}

// In one script the power fails in each step, those of the opening among them, and whatever is kept.
func TestP19_11ThePowerFailsInEachStep(t *testing.T) {
	const appended, synced, rotated, swapped = 3, 0, 1, 2
	script := []int{appended, appended, synced, appended, rotated, appended, appended, appended, appended, synced, swapped, appended, appended, appended}
	finished := false
	for fuse := 1; !finished; fuse++ {
		for _, kept := range []int{0, 1, 20, 24, 25, 26, 49, 50, 99, 1000} {
			fs, h := simfs.New(5000), history{}
			fs.Fuse(fuse)
			s, bad := store.Open(fs, api.Config{Stride: 2, SegEvents: 3})
			finished = bad == api.OK
			for i, what := range script {
				if finished {
					finished = h.do(t, s, what, packed(1+i))
				}
			}
			fs.Restart(slices.Repeat([]int{kept}, 9))
			for second := 1; ; second++ { // and in each step of the opening behind it
				fs.Fuse(second)
				s, bad := store.Open(fs, api.Config{Stride: 2, SegEvents: 3})
				if bad == api.OK {
					fs.Fuse(0)
					h.found(t, fmt.Sprint("fuse ", fuse, ", kept ", kept), s)
					for i := range 8 {
						if !h.do(t, s, appended, packed(50+i)) {
							t.Fatal("the power has failed")
						}
					}
					h.safe = len(h.events)
					h.found(t, "what goes on from there", s)
					break
				}
				if bad != api.ErrDown {
					t.Fatalf("fuse %d, kept %d, then %d: Open: %d", fuse, kept, second, bad)
				}
				fs.Restart(slices.Repeat([]int{kept}, 9))
			}
		}
		if fuse > 200 {
			t.Fatal("the script never ends")
		}
	}
}

func TestP19_11AgainAndAgain(t *testing.T) {
	r := rand.New(rand.NewSource(11))
	losses, most := 0, 0
	for range 400 {
		fs, h := simfs.New(3000+r.Intn(3000)), history{}
		for range 12 {
			if r.Intn(3) > 0 {
				fs.Fuse(1 + r.Intn(60))
			}
			s, bad := store.Open(fs, api.Config{Stride: 1 + r.Intn(4), SegEvents: 1 + r.Intn(6)})
			if bad == api.OK {
				h.found(t, "again and again", s)
				for going := 5 + r.Intn(20); going > 0; going-- {
					v, e := someEvent(r)
					raw, _ := schema.Pack(v, e)
					if !h.do(t, s, r.Intn(14), raw) {
						break
					}
				}
				if r.Intn(4) == 0 && s.Close() == api.OK {
					h.safe = len(h.events)
				}
			} else if bad != api.ErrDown {
				t.Fatalf("Open: %d", bad)
			}
			losses++
			keep := make([]int, r.Intn(30))
			for i := range keep {
				keep[i] = r.Intn(3) * r.Intn(60)
			}
			fs.Restart(keep)
		}
		most = max(most, len(h.events))
	}
	if losses < 1000 || most < 40 {
		t.Errorf("%d losses of power, at most %d events", losses, most)
	}
}

// The examples 5 to 8 and 9 of the whole, as far as they are this layer's.
func TestP19_11ExamplesOfTheWhole(t *testing.T) {
	cfg := api.Config{Stride: 4, SegEvents: 8}
	for _, x := range []struct{ keep, last int }{{0, 1}, {24, 1}, {25, 2}} {
		fs := simfs.New(api.MaxRoom)
		s, _ := store.Open(fs, cfg)
		s.Append(5, place(7))
		s.Sync()
		s.Append(5, place(8))
		fs.Restart([]int{0, x.keep})
		if s, bad := store.Open(fs, cfg); bad != api.OK || s.Last() != x.last {
			t.Errorf("kept %d: %v, %d", x.keep, s, bad)
		}
	}
	fs := simfs.New(api.MaxRoom)
	s, _ := store.Open(fs, cfg)
	fs.Fuse(1)
	if _, bad := s.Append(5, place(7)); bad != api.ErrDown || s.Sync() != api.ErrClosed {
		t.Errorf("Append: %d", bad)
	}
	fs.Restart([]int{0, 25})
	if s, bad := store.Open(fs, cfg); bad != api.OK || s.Last() != 1 {
		t.Errorf("%v, %d", s, bad)
	}
	fs = simfs.New(51)
	s, _ = store.Open(fs, api.Config{Stride: 1, SegEvents: 1})
	refused(t, "a disk of 51 bytes", s, api.ErrFull, func() api.Errno { _, bad := s.Append(5, place(1)); return bad })
}

// costly is a shop whose next rotation lays as many bytes as one can, or nearly: a footer of 512 marks, a manifest of 256 segments, all numbers as great as they come.
func costly() shop {
	const sealed, each, gap = 254, 512, 17000 // the gap ahead of a footer stands for the events: an opening doesn't look at them
	s := stocked(api.MaxSeq-1-(sealed+1)*each, 1, 0)
	delete(s.files, file(5))
	s.m.Gen, s.m.Next, s.m.Segs = api.MaxSeq-1, api.MaxNum, nil
	num, first := api.MaxNum-1-sealed, s.m.Floor+1
	for i := range sealed {
		head := framed(api.HeaderFrame, num, numbers(num, first))
		var marks []api.Mark
		for i := range each / 64 {
			marks = append(marks, api.Mark{Seq: first + 64*i, At: len(head) + i})
		}
		s.m.Segs = append(s.m.Segs, api.Seg{Num: num, First: first, Count: each, Foot: gap})
		s.files[file(num)] = append(head, make([]byte, gap-len(head))...)
		s.resealed(i, 64, marks...)
		num, first = num+1, first+each
	}
	s.m.Segs = append(s.m.Segs, api.Seg{Num: num, First: first})
	b := framed(api.HeaderFrame, num, numbers(num, first))
	for seq := first; seq < first+each; seq++ {
		b = append(b, framed(api.EventFrame, seq, large(1))...)
	}
	s.files[file(num)] = b
	return s
}

// large is a packed event of as many bytes as one can have, or nearly.
func large(id int) []byte {
	e := api.Event{Kind: api.Add, Order: api.MaxOrder - id, Item: api.MaxItem, Qty: api.MaxQty, Price: api.MaxPrice, Cur: 3, Tax: api.MaxTax, Who: "abcdefghijklmnop", Stamp: api.MaxStamp, Note: string(make([]byte, api.MaxNote))}
	raw, bad := schema.Pack(5, e)
	if bad != api.OK {
		panic(bad)
	}
	return raw
}

func TestP19_12RoomEnough(t *testing.T) {
	shop := costly()
	for _, files := range []int{0, api.MaxFiles - 2} {
		for _, do := range []func(s *store.Store) api.Errno{
			func(s *store.Store) api.Errno { return s.Rotate() },
			func(s *store.Store) api.Errno { _, bad := s.Put(large(2)); return bad },
			func(s *store.Store) api.Errno {
				_, e, _ := schema.Unpack(large(2))
				_, bad := s.Append(5, e)
				return bad
			},
		} {
			fs := shop.disk(t, 10000)
			for i := len(fs.List()); i < files; i++ {
				fs.Create(fmt.Sprint("alien", i))
			}
			s := opened(t, fs, 1, 512)
			if bad := do(s); bad != api.OK || len(s.Manifest().Segs) != 256 {
				t.Errorf("%d files: %d, %d segments", len(fs.List()), bad, len(s.Manifest().Segs))
			}
			if size := len(bytesOf(fs, "manifest")); size < 3500 || s.Last() < api.MaxSeq-1 {
				t.Errorf("the manifest has %d bytes alone, Last is %d", size, s.Last())
			}
		}
	}
	s := opened(t, stocked(0, 2, 1).disk(t, 10000), 2, 2)
	if n, bad := s.Put(large(2)); n != 2 || bad != api.OK {
		t.Errorf("Put = %d, %d", n, bad)
	}
}

func TestP19_12WhatOpenReads(t *testing.T) {
	disks := wounded(t)
	for i, shop := range shops() {
		disks[fmt.Sprint("shop ", i)] = shop.disk(t, 100)
	}
	disks["costly"] = costly().disk(t, 100)
	disks["an active segment of 512"] = stocked(0, 1, 512).disk(t, 0)
	for what, fs := range disks {
		ahead := fs.Used()
		s, bad := store.Open(fs, api.Config{Stride: 1, SegEvents: 1})
		if bad != api.OK || fs.ReadBytes() > 3*ahead+100 {
			t.Errorf("%s: Open = %v, %d, has read %d bytes where %d lay", what, s, bad, fs.ReadBytes(), ahead)
		}
	}
}
