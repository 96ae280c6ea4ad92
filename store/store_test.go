package store_test

import (
	"fmt"
	"math"
	"reflect"
	"testing"

	"daybook/api"
	"daybook/recovery"
	"daybook/simfs"
	"daybook/store"
)

func TestP19_1TheConfig(t *testing.T) {
	strides := map[int]bool{math.MinInt: false, -1: false, 0: false, 1: true, 2: true, 63: true, 64: true, 65: false, math.MaxInt: false}
	counts := map[int]bool{math.MinInt: false, -1: false, 0: false, 1: true, 2: true, 511: true, 512: true, 513: false, math.MaxInt: false}
	for stride, right := range strides {
		for count, alsoRight := range counts {
			fs, cfg := simfs.New(100), api.Config{Stride: stride, SegEvents: count}
			s, bad := store.Open(fs, cfg)
			if right && alsoRight {
				if s == nil || bad != api.OK {
					t.Errorf("Open with %v = %v, %d", cfg, s, bad)
				}
				continue
			}
			if s != nil || bad != api.ErrArg || fs.Steps() != 0 || len(fs.List()) != 0 {
				t.Errorf("Open with %v = %v, %d, %d steps", cfg, s, bad, fs.Steps())
			}
			off(fs)
			if s, bad := store.Open(fs, cfg); s != nil || bad != api.ErrArg {
				t.Errorf("the power is off: Open with %v = %v, %d", cfg, s, bad)
			}
		}
	}
}

func TestP19_1RecoverysErrors(t *testing.T) {
	dark, corrupt, torn := simfs.New(100), stocked(0, 2, 2, 1), stocked(0, 2, 2, 1)
	off(dark)
	corrupt.files[file(5)][75] ^= 1 // in its footer
	torn.files[file(7)] = torn.files[file(7)][:21]
	for what, x := range map[string]struct {
		fs   *simfs.FS
		want api.Errno
	}{
		"no disk":             {nil, api.ErrArg},
		"the power is off":    {dark, api.ErrDown},
		"no room":             {simfs.New(50), api.ErrFull},
		"a footer turned":     {corrupt.disk(t, 100), api.ErrCorrupt},
		"a header torn":       {torn.disk(t, 100), api.ErrCorrupt},
		"a disk without room": {new(simfs.FS), api.ErrFull},
	} {
		image := x.fs.Image()
		if s, bad := store.Open(x.fs, api.Config{Stride: 1, SegEvents: 1}); s != nil || bad != x.want {
			t.Errorf("%s: Open = %v, %d, not %d", what, s, bad, x.want)
		}
		if x.fs.Steps() != 0 || !reflect.DeepEqual(x.fs.Image(), image) {
			t.Errorf("%s: the disk was changed", what)
		}
	}
}

// wounded is disks on which an opening has something to do, or nothing.
func wounded(t *testing.T) map[string]*simfs.FS {
	torn, full := stocked(20, 2, 4, 3), stocked(0, 2, 3, 3, 3)
	torn.files[file(7)] = append(torn.files[file(7)], 0xa5, 1, 2)
	torn.files["manifest.tmp"], torn.files["seg-000001"], torn.files["book-000008"], torn.files["alien"] = []byte{1}, nil, []byte{2, 3}, []byte{4}
	strays, _ := simfs.Mount(1000, []api.File{{Name: "manifest.tmp", Data: []byte{1, 2}}, {Name: "seg-000001", Data: []byte{3}, Safe: 1}, {Name: "alien"}})
	return map[string]*simfs.FS{"an empty disk": simfs.New(1000), "strays": strays, "a torn store": torn.disk(t, 1000), "a right store": full.disk(t, 1000)}
}

func TestP19_1JustWhatRecoveryDoes(t *testing.T) {
	for what, found := range wounded(t) {
		for fuse := range 14 {
			room := found.Used() + found.Free()
			a, b := twin(t, room, found), twin(t, room, found)
			a.Fuse(fuse)
			b.Fuse(fuse)
			p, want := recovery.Run(a)
			s, bad := store.Open(b, api.Config{Stride: 2, SegEvents: 2})
			if bad != want || (s == nil) != (bad != api.OK) {
				t.Fatalf("%s, fuse %d: Open = %v, %d, not %d", what, fuse, s, bad, want)
			}
			if a.Steps() != b.Steps() || !reflect.DeepEqual(a.Image(), b.Image()) {
				t.Errorf("%s, fuse %d: behind Open lies %v, not %v", what, fuse, b.Image(), a.Image())
			}
			if s != nil && (s.Last() != p.Last || s.Floor() != p.Manifest.Floor || !same(s.Manifest(), p.Manifest) || s.Disk() != b || s.Closed() || s.Alive() != api.OK || s.Decoded() != 0) {
				t.Errorf("%s, fuse %d: the store has Last %d, %v, not %v", what, fuse, s.Last(), s.Manifest(), p)
			}
		}
	}
}

// call is a call with an Errno; wrong: with arguments that it would refuse.
type call struct {
	name  string
	steps int // how many it makes in a store whose active segment is full
	wrong bool
	do    func(s *store.Store) api.Errno
}

func calls() []call {
	return []call{
		{"Alive", 0, false, func(s *store.Store) api.Errno { return s.Alive() }},
		{"Append", 10, false, func(s *store.Store) api.Errno { _, bad := s.Append(5, place(1)); return bad }},
		{"Append of nothing", 0, true, func(s *store.Store) api.Errno { _, bad := s.Append(0, api.Event{}); return bad }},
		{"Put", 10, false, func(s *store.Store) api.Errno { _, bad := s.Put(packed(1)); return bad }},
		{"Put of nothing", 0, true, func(s *store.Store) api.Errno { _, bad := s.Put(nil); return bad }},
		{"Sync", 1, false, func(s *store.Store) api.Errno { return s.Sync() }},
		{"Rotate", 9, false, func(s *store.Store) api.Errno { return s.Rotate() }},
		{"Swap", 4, false, func(s *store.Store) api.Errno { m := s.Manifest(); m.Gen++; return s.Swap(m) }},
		{"Swap of nothing", 0, true, func(s *store.Store) api.Errno { return s.Swap(api.Manifest{}) }},
		{"Close", 1, false, func(s *store.Store) api.Errno { return s.Close() }},
		{"Read", 0, false, func(s *store.Store) api.Errno { _, bad := s.Read(1); return bad }},
		{"Read of nothing", 0, true, func(s *store.Store) api.Errno { _, bad := s.Read(-1); return bad }},
	}
}

// full is a store of one active segment that is full, with 1000 bytes free.
func full(t *testing.T) (*simfs.FS, *store.Store) {
	fs := stocked(0, 2, 2).disk(t, 1000)
	return fs, opened(t, fs, 2, 2)
}

func TestP19_2NilAndClosed(t *testing.T) {
	for _, c := range calls() {
		if bad := c.do(nil); bad != api.ErrArg {
			t.Errorf("%s on a nil store: %d", c.name, bad)
		}
		if bad := c.do(new(store.Store)); bad != api.ErrClosed {
			t.Errorf("%s on a store that was never opened: %d", c.name, bad)
		}
		fs, s := full(t)
		if bad := s.Close(); bad != api.OK {
			t.Fatalf("Close: %d", bad)
		}
		image, steps := fs.Image(), fs.Steps()
		for range 2 {
			if bad := c.do(s); bad != api.ErrClosed || !s.Closed() {
				t.Errorf("%s on a closed store: %d", c.name, bad)
			}
			off(fs) // closed comes ahead of the power
		}
		if fs.Steps() != steps || !reflect.DeepEqual(fs.Image(), image) {
			t.Errorf("%s on a closed store has changed the disk", c.name)
		}
	}
}

func TestP19_2ThePowerIsOff(t *testing.T) {
	for _, c := range calls() {
		fs, s := full(t)
		off(fs)
		image, steps := fs.Image(), fs.Steps()
		if s.Closed() || s.Last() != 2 || s.Disk() != fs || len(s.Manifest().Segs) != 1 {
			t.Errorf("the store has looked at the power by itself")
		}
		if bad := c.do(s); bad != api.ErrDown || !s.Closed() {
			t.Errorf("%s: %d, closed: %v", c.name, bad, s.Closed())
		}
		if fs.Steps() != steps || !reflect.DeepEqual(fs.Image(), image) {
			t.Errorf("%s has changed the disk", c.name)
		}
		fs.Restart(nil)
		if bad := c.do(s); bad != api.ErrClosed || !s.Closed() {
			t.Errorf("%s once the power is back: %d", c.name, bad)
		}
	}
}

func TestP19_2ThePowerFailsInTheMidst(t *testing.T) {
	for _, c := range calls() {
		if c.wrong {
			fs, s := full(t)
			fs.Fuse(1)
			refused(t, c.name, s, c.do(s), func() api.Errno { return c.do(s) })
			continue
		}
		for fuse := 1; fuse <= c.steps+1; fuse++ {
			fs, s := full(t)
			before := fs.Steps()
			fs.Fuse(fuse)
			bad := c.do(s)
			if fuse > c.steps && (bad != api.OK || s.Closed() != (c.name == "Close") || fs.Steps() != before+c.steps) {
				t.Errorf("%s: %d, %d steps", c.name, bad, fs.Steps()-before)
			}
			if fuse <= c.steps && (bad != api.ErrDown || !s.Closed() || s.Last() != 0 || s.Disk() != nil || fs.Steps() != before+fuse-1) {
				t.Errorf("%s, the power fails in step %d: %d, closed: %v, %d steps", c.name, fuse, bad, s.Closed(), fs.Steps()-before)
			}
		}
	}
}

func TestP19_4Sync(t *testing.T) {
	fs := simfs.New(1000)
	s := opened(t, fs, 2, 3)
	for i := 1; i <= 5; i++ { // 1 to 3 are sealed on the way
		s.Append(5, place(i))
	}
	steps := fs.Steps()
	if x := fs.Image()[2]; x.Name != "seg-000002" || x.Safe != 22 || len(x.Data) != 72 {
		t.Errorf("ahead of Sync: %s has %d bytes, %d safe", x.Name, len(x.Data), x.Safe)
	}
	if bad := s.Sync(); bad != api.OK || fs.Steps() != steps+1 {
		t.Errorf("Sync: %d, %d steps", bad, fs.Steps()-steps)
	}
	for _, x := range fs.Image() {
		if x.Safe != len(x.Data) {
			t.Errorf("behind Sync: %s has %d bytes, %d safe", x.Name, len(x.Data), x.Safe)
		}
	}
	if bad := s.Sync(); bad != api.OK || fs.Steps() != steps+2 {
		t.Errorf("a further Sync: %d, %d steps", bad, fs.Steps()-steps)
	}
	fs.Restart(nil)
	if s := opened(t, fs, 2, 3); s.Last() != 5 {
		t.Errorf("behind a loss of power there are %d events", s.Last())
	}
}

func TestP19_7Close(t *testing.T) {
	fs := simfs.New(1000)
	s := opened(t, fs, 2, 9)
	s.Append(5, place(1))
	s.Append(5, place(2))
	steps := fs.Steps()
	if bad := s.Close(); bad != api.OK || fs.Steps() != steps+1 || !s.Closed() {
		t.Errorf("Close: %d, %d steps", bad, fs.Steps()-steps)
	}
	if x := fs.Image()[1]; x.Safe != 72 {
		t.Errorf("behind Close %d bytes are safe", x.Safe)
	}
	if bad := s.Close(); bad != api.ErrClosed || fs.Steps() != steps+1 {
		t.Errorf("a further Close: %d", bad)
	}
	s = opened(t, fs, 2, 9)
	s.Append(5, place(3))
	fs.Fuse(1)
	if bad := s.Close(); bad != api.ErrDown || !s.Closed() || s.Close() != api.ErrClosed {
		t.Errorf("Close, in which the power fails: %d", bad)
	}
	if x := fs.Image()[1]; len(x.Data) != 97 || x.Safe != 72 {
		t.Errorf("%d bytes, %d safe", len(x.Data), x.Safe)
	}
	// Whatever the step answers: here another hand has taken the file away.
	fs, s = full(t)
	fs.Remove(file(5))
	if bad := s.Close(); bad != api.ErrNoFile || !s.Closed() {
		t.Errorf("Close without its file: %d, closed: %v", bad, s.Closed())
	}
}

func TestP19_10OfAClosedOrNilStore(t *testing.T) {
	var none *store.Store
	_, closed := full(t)
	closed.Read(1)
	closed.Close()
	fs, failed := full(t)
	failed.Read(1)
	off(fs)
	failed.Alive()
	for what, s := range map[string]*store.Store{"nil": none, "closed": closed, "the power was off": failed, "never opened": new(store.Store)} {
		if !s.Closed() || s.Last() != 0 || s.Floor() != 0 || !same(s.Manifest(), api.Manifest{}) || s.Disk() != nil || s.Decoded() != 0 {
			t.Errorf("%s: %v, %d, %d, %v, %p, %d", what, s.Closed(), s.Last(), s.Floor(), s.Manifest(), s.Disk(), s.Decoded())
		}
	}
}

func TestP19_10OfAnOpenOne(t *testing.T) {
	shop := stocked(20, 2, 4, 3)
	fs := shop.disk(t, 1000)
	s := opened(t, fs, 2, 5)
	for range 2 {
		if s.Closed() || s.Last() != 27 || s.Floor() != 20 || !same(s.Manifest(), shop.m) || s.Disk() != fs {
			t.Errorf("%v, %d, %d, %v, %p", s.Closed(), s.Last(), s.Floor(), s.Manifest(), s.Disk())
		}
		off(fs) // they don't look at the power
	}
}

func TestP19_10ManifestIsNewMemory(t *testing.T) {
	fs := stocked(0, 2, 2, 1).disk(t, 1000)
	s := opened(t, fs, 2, 2)
	want := s.Manifest()
	for range 3 {
		m := s.Manifest()
		clear(m.Segs[:cap(m.Segs)])
		_ = append(m.Segs[:0], api.Seg{Num: 1})
		if !same(s.Manifest(), want) {
			t.Errorf("the manifest is %v, not %v", s.Manifest(), want)
		}
		if records, bad := s.Read(1); bad != api.OK || len(records) != s.Last() {
			t.Errorf("Read = %v, %d", records, bad)
		}
		s.Append(5, place(1))
		s.Rotate()
		want = s.Manifest()
	}
}

func TestRule6StoresNeverMeet(t *testing.T) {
	fs, other := simfs.New(1000), simfs.New(1000)
	a, b := opened(t, fs, 1, 1), opened(t, other, 3, 2)
	for i := range 9 {
		a.Append(5, place(1))
		if i%3 == 0 {
			b.Append(5, place(2))
		}
	}
	if a.Last() != 9 || b.Last() != 3 || len(a.Manifest().Segs) != 9 || len(b.Manifest().Segs) != 2 {
		t.Errorf("%d, %d, %v, %v", a.Last(), b.Last(), a.Manifest(), b.Manifest())
	}
	a.Close()
	if b.Closed() || b.Sync() != api.OK {
		t.Error("closing one store has closed the other")
	}
}

// What is done beneath an open store by another hand: nothing is promised but that the calls end and don't panic.
func TestRule1AnotherHand(t *testing.T) {
	hands := map[string]func(fs *simfs.FS){
		"the manifest is gone":       func(fs *simfs.FS) { fs.Remove("manifest") },
		"the active one is gone":     func(fs *simfs.FS) { fs.Remove(file(7)) },
		"a sealed one is gone":       func(fs *simfs.FS) { fs.Remove(file(5)) },
		"the active one is cut":      func(fs *simfs.FS) { fs.Cut(file(7), 30) },
		"the active one is empty":    func(fs *simfs.FS) { fs.Cut(file(7), 0) },
		"a sealed one is cut":        func(fs *simfs.FS) { fs.Cut(file(5), 80) },
		"a sealed one is empty":      func(fs *simfs.FS) { fs.Cut(file(5), 0) },
		"the active one has grown":   func(fs *simfs.FS) { fs.Append(file(7), make([]byte, 50)) },
		"the active one is another":  func(fs *simfs.FS) { fs.Rename(file(5), file(7)) },
		"a sealed one is another":    func(fs *simfs.FS) { fs.Rename(file(7), file(5)) },
		"manifest.tmp is in the way": func(fs *simfs.FS) { fs.Create("manifest.tmp") },
		"the next one is in the way": func(fs *simfs.FS) { fs.Create(file(10)) },
		"the disk is restarted":      func(fs *simfs.FS) { fs.Restart(nil) },
	}
	for what, hand := range hands {
		for _, c := range calls() {
			for _, d := range calls() {
				fs := stocked(0, 2, 3, 2).disk(t, 1000)
				s := opened(t, fs, 2, 3)
				s.Append(5, place(9))
				hand(fs)
				c.do(s)
				d.do(s)
				s.Read(3)
				if records, bad := s.Read(1); bad != api.OK && len(records) > 0 {
					t.Errorf("%s: %v beside %d", what, records, bad)
				}
				_ = fmt.Sprint(s.Last(), s.Floor(), s.Manifest(), s.Decoded(), s.Closed())
			}
		}
	}
}
