package journal_test

import (
	"fmt"
	"math/rand"
	"slices"
	"testing"

	"daybook/api"
	"daybook/frame"
	"daybook/journal"
	"daybook/order"
	"daybook/schema"
	"daybook/simfs"
)

// grow makes an Append or a Put, right or wrong, and takes what was taken into the list; with a pending event that the power has failed in, if it has.
func (l *list) grow(t *testing.T, r *rand.Rand, j *journal.Journal) api.Errno {
	t.Helper()
	v, e, now := someEvent(r)
	switch r.Intn(12) {
	case 0:
		v = []int{0, -1, 6, 77}[r.Intn(4)]
	case 1:
		e.Order = []int{0, -5, 1<<40 + 1}[r.Intn(3)]
	case 2:
		e.Note = string(make([]byte, 121+r.Intn(2000)))
	}
	raw, want := schema.Pack(v, e)
	var n int
	var bad api.Errno
	if want != api.OK || r.Intn(2) == 0 {
		n, bad = j.Append(v, e)
	} else {
		n, bad = j.Put(raw)
	}
	switch {
	case bad == api.ErrDown || bad == api.ErrClosed:
	case want != api.OK && bad != want:
		t.Fatalf("Append(%d, %v): %d, not %d", v, e, bad, want)
	case want == api.OK && bad != api.OK && bad != api.ErrFull && bad != api.ErrSegs:
		t.Fatalf("Append(%d, %v): %d", v, e, bad)
	case bad == api.OK && n != len(*l)+1 || bad != api.OK && n != 0:
		t.Fatalf("Append(%d, %v) = %d, %d; there are %d", v, e, n, bad, len(*l))
	}
	if bad == api.OK || bad == api.ErrDown && want == api.OK {
		*l = append(*l, now)
	}
	return bad
}

// Scripts without losses of power: every answer is that of the plain list.
func TestP1APlainList(t *testing.T) {
	r := rand.New(rand.NewSource(1))
	count := map[string]int{}
	for range 150 {
		fs, l := simfs.New(300+r.Intn(4000)), list{}
		open := func() *journal.Journal { return opened(t, fs, 1+r.Intn(4), 1+r.Intn(5)) }
		j := open()
		for range 60 {
			what, floor, snap := "", j.Floor(), j.Manifest().SnapSeq
			var bad api.Errno
			switch r.Intn(14) {
			case 0:
				what, bad = "Sync", j.Sync()
			case 1:
				what, bad = "Rotate", j.Rotate()
			case 2, 3:
				what, bad = "Snapshot", j.Snapshot()
				if (bad == api.ErrEmpty) != (snap == len(l)) {
					t.Fatalf("Snapshot: %d; the book goes to %d, there are %d", bad, snap, len(l))
				}
			case 4:
				what = "Compact"
				_, bad = j.Compact()
				if (bad == api.ErrNoSnap) != (snap == 0) || j.Floor() < floor || j.Floor() > snap {
					t.Fatalf("Compact: %d, Floor %d; the book goes to %d", bad, j.Floor(), snap)
				}
				floor = j.Floor()
			case 5:
				what, bad = "Close", j.Close()
				j = open()
			case 6, 7:
				what = "Replay"
				from := r.Intn(len(l)+4) - 1
				rs, e := j.Replay(from)
				bad = e
				want := api.OK
				if from < 1 || from > len(l)+1 {
					want = api.ErrArg
				} else if from <= floor {
					want = api.ErrCompacted
				}
				if bad != want || bad == api.OK && !slices.Equal(rs, l.from(from)) || bad != api.OK && len(rs) > 0 {
					t.Fatalf("Replay(%d) = %v, %d", from, rs, bad)
				}
			default:
				what, bad = "Append", l.grow(t, r, j)
			}
			if j.Floor() != floor {
				t.Fatalf("behind %s the floor is %d, not %d", what, j.Floor(), floor)
			}
			l.hold(t, what, j)
			if j.Cost() > j.Last()-j.Manifest().SnapSeq+3 {
				t.Fatalf("behind %s a Load goes through %d events", what, j.Cost())
			}
			count[fmt.Sprint(what, " ", bad)]++
		}
	}
	for _, what := range []string{"Sync 0", "Rotate 0", "Rotate 93", "Rotate 54", "Snapshot 0", "Snapshot 93", "Snapshot 54", "Compact 0", "Compact 94", "Compact 54", "Close 0", "Replay 0", "Replay 1", "Replay 95", "Append 0", "Append 30", "Append 32", "Append 54"} {
		if count[what] < 5 {
			t.Errorf("%s was answered %d times", what, count[what])
		}
	}
}

// The power fails in any step of any call, any number of times, and whatever is kept.
func TestP2LossesOfPower(t *testing.T) {
	r := rand.New(rand.NewSource(2))
	losses, most, floors := 0, 0, 0
	for range 120 {
		fs, l, safe := simfs.New(1500+r.Intn(4000)), list{}, 0
		for range 12 {
			if r.Intn(3) > 0 {
				fs.Fuse(1 + r.Intn(50))
			}
			j, bad := journal.Open(fs, api.Config{Stride: 1 + r.Intn(4), SegEvents: 1 + r.Intn(6)})
			if bad != api.OK && bad != api.ErrDown {
				t.Fatalf("Open: %d", bad)
			}
			if bad == api.OK {
				if j.Last() < safe || j.Last() > len(l) {
					t.Fatalf("%d events are there; %d were safe, %d were appended", j.Last(), safe, len(l))
				}
				l = l[:j.Last()]
				safe = len(l)
				l.hold(t, "behind an opening", j)
				safe = live(t, r, j, &l, safe)
				floors = max(floors, j.Floor())
			}
			losses++
			most = max(most, len(l))
			keep := make([]int, r.Intn(30))
			for i := range keep {
				keep[i] = r.Intn(3) * r.Intn(60)
			}
			fs.Restart(keep)
		}
	}
	if losses < 1000 || most < 40 || floors < 20 {
		t.Errorf("%d losses of power, at most %d events, a floor of %d", losses, most, floors)
	}
}

// live makes calls until the power fails or some are made, and tells how many events are safe.
func live(t *testing.T, r *rand.Rand, j *journal.Journal, l *list, safe int) int {
	t.Helper()
	for range 5 + r.Intn(25) {
		var bad api.Errno
		makesSafe := true
		switch r.Intn(12) {
		case 0:
			bad = j.Sync()
		case 1:
			bad = j.Rotate()
		case 2:
			bad = j.Snapshot()
		case 3:
			_, bad = j.Compact()
			makesSafe = false
		case 4:
			if r.Intn(4) == 0 {
				bad = j.Close()
			}
			makesSafe = j.Closed()
		default:
			bad = l.grow(t, r, j)
			makesSafe = false
		}
		if bad == api.OK && makesSafe {
			safe = len(*l)
		}
		if j.Closed() {
			break
		}
		if r.Intn(5) == 0 {
			l.hold(t, "while it lives", j)
		}
	}
	return safe
}

// In one script the power fails in each step, those of the opening among them, and whatever is kept.
func TestP2InEachStep(t *testing.T) {
	ended := false
	for fuse := 1; !ended; fuse++ {
		for _, kept := range []int{0, 1, 24, 25, 30, 1000} {
			fs, l, safe := simfs.New(9000), list{}, 0
			fs.Fuse(fuse)
			ended = play(fs, &l, &safe)
			fs.Restart(slices.Repeat([]int{kept}, 9))
			for again := 1; ; again++ {
				fs.Fuse(again)
				j, bad := journal.Open(fs, api.Config{Stride: 3, SegEvents: 2})
				fs.Fuse(0)
				if bad == api.ErrDown {
					fs.Restart(slices.Repeat([]int{kept}, 9))
					continue
				}
				if bad != api.OK || j.Last() < safe || j.Last() > len(l) {
					t.Fatalf("fuse %d, kept %d: Open: %d, Last %d of %d to %d", fuse, kept, bad, j.Last(), safe, len(l))
				}
				l = l[:j.Last()]
				l.hold(t, fmt.Sprint("fuse ", fuse, ", kept ", kept), j)
				for id := range 3 {
					j.Append(5, place(30+id))
					l = append(l, place(30+id))
				}
				l.hold(t, "what goes on from there", j)
				break
			}
		}
		if fuse > 300 {
			t.Fatal("the script never ends")
		}
	}
}

// play opens a journal and makes a few calls of each kind; a false: the power has failed.
func play(fs *simfs.FS, l *list, safe *int) bool {
	j, bad := journal.Open(fs, api.Config{Stride: 2, SegEvents: 3})
	if bad != api.OK {
		return false
	}
	for i, what := range "aayasaacaasaracaasc" {
		switch what {
		case 'a':
			_, bad = j.Append(5, place(1+i%5))
			*l = append(*l, place(1+i%5))
		case 'y':
			bad = j.Sync()
		case 's':
			bad = j.Snapshot()
		case 'c':
			_, bad = j.Compact()
		case 'r':
			bad = j.Rotate()
		}
		if bad == api.ErrDown {
			return false
		}
		if bad == api.OK && what != 'a' && what != 'c' {
			*safe = len(*l)
		}
	}
	return true
}

// What keeps a journal safe and small shows in no answer of Append and Load, and in Replay by the floor alone.
func TestP3ItDoesNotShow(t *testing.T) {
	r := rand.New(rand.NewSource(3))
	for range 100 {
		fs := simfs.New(1 << 16)
		j, plain := opened(t, fs, 1+r.Intn(4), 1+r.Intn(5)), opened(t, simfs.New(1<<16), 4, 500)
		for range 60 {
			switch r.Intn(10) {
			case 0:
				j.Snapshot()
			case 1:
				j.Rotate()
			case 2:
				j.Compact()
			case 3:
				j.Sync()
			case 4:
				j.Close()
				j = opened(t, fs, 1+r.Intn(4), 1+r.Intn(5))
			default:
				v, e, _ := someEvent(r)
				n, bad := j.Append(v, e)
				if m, want := plain.Append(v, e); n != m || bad != want {
					t.Fatalf("Append = %d, %d, not %d, %d", n, bad, m, want)
				}
			}
			id := 1 + r.Intn(7)
			s, bad := j.Load(id)
			if o, want := plain.Load(id); !sameState(s, o) || bad != want {
				t.Fatalf("Load(%d) = %v, %d, not %v, %d", id, s, bad, o, want)
			}
			from := r.Intn(j.Last() + 3)
			rs, bad := j.Replay(from)
			all, want := plain.Replay(from)
			if from >= 1 && from <= j.Floor() {
				all, want = nil, api.ErrCompacted
			}
			if !slices.Equal(rs, all) || bad != want {
				t.Fatalf("Replay(%d) = %v, %d, not %v, %d", from, rs, bad, all, want)
			}
		}
	}
}

// Whatever bytes lie there: all calls end, read little, and give out right events and valid states alone.
func TestP4WhateverLiesThere(t *testing.T) {
	r := rand.New(rand.NewSource(4))
	openedOnes := 0
	for range 3000 {
		files := stocked(t, 1+r.Intn(3), 2, []int{2, 3, 5, 8}[r.Intn(4)], 2, 3, 1+r.Intn(3)).Image()
		for range 1 + r.Intn(3) {
			x := &files[r.Intn(len(files))]
			switch at := r.Intn(len(x.Data) + 1); r.Intn(5) {
			case 0:
				x.Data = x.Data[:at]
			case 1:
				if at < len(x.Data) {
					x.Data[at] ^= 1 << r.Intn(8)
				}
			case 2:
				x.Data = slices.Insert(x.Data, at, make([]byte, r.Intn(40))...)
			case 3:
				x.Data = files[r.Intn(len(files))].Data
			case 4:
				forge(r, x)
			}
		}
		fs := mounted(t, 5000, files)
		used := fs.Used()
		j, bad := journal.Open(fs, api.Config{Stride: 2, SegEvents: 3})
		if fs.ReadBytes() > 4*used+100 {
			t.Fatalf("Open reads %d bytes of %d", fs.ReadBytes(), used)
		}
		if bad != api.OK {
			continue
		}
		openedOnes++
		for range 2 {
			examine(t, j)
			j.Append(5, place(3))
			j.Snapshot()
			examine(t, j)
			j.Compact()
			j.Rotate()
		}
	}
	if openedOnes < 200 {
		t.Errorf("%d of them were opened", openedOnes)
	}
}

// forge puts another body into a frame of a file, with right sums.
func forge(r *rand.Rand, x *api.File) {
	for at := 0; at < len(x.Data); {
		f, size, bad := frame.Decode(x.Data[at:])
		if bad != api.OK {
			return
		}
		if r.Intn(3) == 0 {
			f.Body[r.Intn(len(f.Body))] ^= 1 << r.Intn(8)
			x.Data = slices.Concat(x.Data[:at], framed(f.Kind, f.Seq, f.Body), x.Data[at+size:])
			return
		}
		at += size
	}
}

// examine holds what a journal gives out to being right, and to a bound of what it reads.
func examine(t *testing.T, j *journal.Journal) {
	t.Helper()
	fs := j.Disk()
	used, read := fs.Used(), fs.ReadBytes()
	last := j.Floor()
	for n, e := range j.Each(j.Floor() + 1) {
		if last++; n != last || schema.Check(5, e) != api.OK {
			t.Fatalf("the event %d is %v", n, e)
		}
	}
	j.Orders()
	for id := 1; id <= 9; id++ {
		if s, bad := j.Load(id); bad == api.OK && (s.Order != id || !order.Valid(s)) {
			t.Fatalf("Load(%d) = %v", id, s)
		}
	}
	if n := fs.ReadBytes() - read; n > 11*(2*used+100) {
		t.Fatalf("%d bytes are read of %d", n, used)
	}
}

// A run of bits is turned within one frame: what stands in that frame is never given out.
func TestP5ATurnedRun(t *testing.T) {
	fs := stocked(t, 2, 2, 4, 2, 3, 2)
	right := opened(t, mounted(t, 900, fs.Image()), 2, 3)
	r := rand.New(rand.NewSource(5))
	for _, x := range fs.Image() {
		for at := 0; at < len(x.Data); {
			f, size, bad := frame.Decode(x.Data[at:])
			if bad != api.OK {
				t.Fatalf("%s at %d: %d", x.Name, at, bad)
			}
			for i := range 8 * size {
				y := turnedRun(t, r, fs, x.Name, 8*at+i, 8*(at+size))
				active := x.Name == "seg-000003" && f.Kind == api.EventFrame
				hurt(t, fmt.Sprint(x.Name, " at ", at, ", bit ", i), y, right, f, active)
			}
			at += size
		}
	}
}

// turnedRun is a disk like another one, with a run of at most 32 bits turned from a bit on, and ahead of another.
func turnedRun(t *testing.T, r *rand.Rand, fs *simfs.FS, name string, bit, end int) *simfs.FS {
	t.Helper()
	files := fs.Image()
	for _, x := range files {
		if x.Name == name {
			length := min(1+r.Intn(32), end-bit)
			for k := range length {
				if k == 0 || k == length-1 || r.Intn(2) == 0 {
					x.Data[(bit+k)/8] ^= 1 << ((bit + k) % 8)
				}
			}
		}
	}
	return mounted(t, 900, files)
}

// hurt holds a journal one of whose frames is turned to what was right: it is corrupt, or it ends ahead of the frame, or does not need it.
func hurt(t *testing.T, what string, fs *simfs.FS, right *journal.Journal, f api.Frame, active bool) {
	t.Helper()
	j, bad := journal.Open(fs, api.Config{Stride: 2, SegEvents: 3})
	if active && (bad != api.OK || j.Last() != f.Seq-1) {
		t.Fatalf("%s: Open: %d", what, bad)
	}
	if bad != api.OK {
		if j != nil || bad != api.ErrCorrupt {
			t.Fatalf("%s: Open: %d", what, bad)
		}
		return
	}
	if !active && f.Kind != api.EventFrame {
		t.Fatalf("%s: it opens", what)
	}
	for from := 3; from <= j.Last(); from++ {
		rs, bad := j.Replay(from)
		want, _ := right.Replay(from)
		if bad == api.OK && (!slices.Equal(rs, want[:len(rs)]) || len(rs) != j.Last()-from+1 || !active && from <= f.Seq) {
			t.Fatalf("%s: Replay(%d) = %v", what, from, rs)
		}
		if bad != api.OK && (bad != api.ErrCorrupt || active || len(rs) != 0) {
			t.Fatalf("%s: Replay(%d): %d", what, from, bad)
		}
	}
	for id := 1; id <= 9; id++ {
		s, bad := j.Load(id)
		want, _ := right.Load(id)
		if bad == api.OK && !sameState(s, want) && !(active && id >= f.Seq) {
			t.Fatalf("%s: Load(%d) = %v", what, id, s)
		}
		if inBook := f.Seq <= 4; !active && (bad == api.OK) != inBook {
			t.Fatalf("%s: Load(%d): %d", what, id, bad)
		}
	}
}

// Behind a Compact that went well little more lies there than is needed, and a Load behind an opening goes through little more.
func TestP6KeptSmall(t *testing.T) {
	r := rand.New(rand.NewSource(6))
	for range 60 {
		cfg := api.Config{Stride: 1 + r.Intn(8), SegEvents: 1 + r.Intn(30)}
		fs := simfs.New(1 << 18)
		j, _ := journal.Open(fs, cfg)
		for range 1 + r.Intn(200) {
			v, e, _ := someEvent(r)
			j.Append(v, e)
		}
		if bad := j.Snapshot(); bad != api.OK {
			t.Fatalf("Snapshot: %d", bad)
		}
		for range r.Intn(60) {
			v, e, _ := someEvent(r)
			j.Append(v, e)
		}
		if _, bad := j.Compact(); bad != api.OK {
			t.Fatalf("Compact: %d", bad)
		}
		m, most := j.Manifest(), 8192
		most += len(bytesOf(fs, fmt.Sprintf("book-%06d", m.Snap)))
		for i, g := range m.Segs {
			end := j.Last()
			if i < len(m.Segs)-1 {
				end = g.First + g.Count - 1
			}
			if end > m.SnapSeq {
				most += len(bytesOf(fs, fmt.Sprintf("seg-%06d", g.Num)))
			}
		}
		if fs.Used() > most {
			t.Errorf("%d bytes lie there, not at most %d", fs.Used(), most)
		}
		j.Close()
		j, _ = journal.Open(fs, cfg)
		if _, bad := j.Load(1); bad != api.OK || j.Cost() > j.Last()-m.SnapSeq+cfg.Stride-1 {
			t.Errorf("Load: %d, Cost %d; %d events are above the book", bad, j.Cost(), j.Last()-m.SnapSeq)
		}
	}
}
