package upkeep_test

import (
	"fmt"
	"math/rand"
	"reflect"
	"slices"
	"testing"

	"daybook/api"
	"daybook/schema"
	"daybook/simfs"
	"daybook/store"
	"daybook/upcast"
	"daybook/upkeep"
)

// someEvent is a right event of some version, packed, and what it is once it is brought up.
func someEvent(r *rand.Rand) ([]byte, api.Event) {
	v := 1 + r.Intn(5)
	kinds := schema.Kinds(v)
	e := api.Event{Kind: kinds[r.Intn(len(kinds))], Order: 1 + r.Intn(6), Item: r.Intn(4), Qty: r.Intn(5), Price: r.Intn(4)}
	if r.Intn(3) == 0 {
		e.Kind = api.Place
	}
	if v > 3 {
		e.Who = []string{"", "ann", "bob"}[r.Intn(3)]
	}
	raw, bad := schema.Pack(v, e)
	if bad != api.OK {
		panic(bad)
	}
	now, bad := upcast.Read(raw)
	if bad != api.OK {
		panic(bad)
	}
	return raw, now
}

// walk is a store and the model over two disks that are treated alike.
type walk struct {
	fs *simfs.FS
	s  *store.Store
	d  *model
}

func (w *walk) disks(do func(fs *simfs.FS)) {
	do(w.fs)
	do(w.d.fs)
}

// open opens both; a false, if the power has failed.
func (w *walk) open(t *testing.T, cfg api.Config) bool {
	t.Helper()
	s, bad := store.Open(w.fs, cfg)
	d, want := store.Open(w.d.fs, cfg)
	if bad != want || bad != api.OK && bad != api.ErrDown {
		t.Fatalf("Open: %d, not %d", bad, want)
	}
	w.s, w.d.s = s, d
	if bad == api.OK { // what was not kept is no more
		w.d.events = w.d.events[:d.Last()]
	}
	return bad == api.OK
}

// call makes one call on both, and holds the answers against each other.
func (w *walk) call(t *testing.T, r *rand.Rand) (string, api.Errno) {
	t.Helper()
	what, n, want := "", 0, 0
	var bad, wanted api.Errno
	switch r.Intn(14) {
	case 0:
		what, bad, wanted = "Sync", w.s.Sync(), w.d.s.Sync()
	case 1:
		what, bad, wanted = "Rotate", w.s.Rotate(), w.d.s.Rotate()
	case 2, 3, 4:
		what, bad, wanted = "Snapshot", upkeep.Snapshot(w.s), w.d.snapshot()
	case 5, 6:
		what = "Compact"
		n, bad = upkeep.Compact(w.s)
		want, wanted = w.d.compact()
		if bad == api.OK && slack(t, w.s)-aliens(w.fs) > 8192 {
			t.Fatalf("behind Compact: %v", w.fs.List())
		}
	case 7:
		what = "States"
		ss, e := upkeep.States(w.s)
		bad, wanted = e, w.d.s.Alive()
		if wanted == api.OK && !sameStates(ss, w.d.states(w.d.s.Last())) {
			t.Fatalf("States = %v, %d", ss, e)
		}
	case 8:
		what = "Book"
		m := w.d.s.Manifest()
		ss, seq, e := upkeep.Book(w.s)
		bad, wanted = e, w.d.s.Alive()
		if wanted == api.OK && (seq != m.SnapSeq || !sameStates(ss, w.d.states(seq))) {
			t.Fatalf("Book = %v, %d, %d", ss, seq, e)
		}
	default:
		raw, e := someEvent(r)
		what = fmt.Sprint("Put ", raw)
		n, bad = w.s.Put(raw)
		want, wanted = w.d.s.Put(raw)
		if wanted == api.OK || wanted == api.ErrDown { // the one in which the power fails may be there
			w.d.events = append(w.d.events, e)
		}
	}
	if n != want || bad != wanted {
		t.Fatalf("%s = %d, %d, not %d, %d", what, n, bad, want, wanted)
	}
	return what, bad
}

// aliens is how many bytes they have.
func aliens(fs *simfs.FS) int {
	n := 0
	for _, x := range fs.Image() {
		if x.Name[0] == 'a' {
			n += len(x.Data)
		}
	}
	return n
}

// hold holds the store to the model, and both to the list of events.
func (w *walk) hold(t *testing.T, what string) {
	t.Helper()
	s, d := w.s, w.d.s
	if s.Last() != d.Last() || s.Floor() != d.Floor() || !same(s.Manifest(), d.Manifest()) || s.Closed() != d.Closed() {
		t.Fatalf("%s: the store has Last %d, %v, not %d, %v", what, s.Last(), s.Manifest(), d.Last(), d.Manifest())
	}
	if w.fs.Steps() != w.d.fs.Steps() || !reflect.DeepEqual(w.fs.Image(), w.d.fs.Image()) {
		t.Fatalf("%s: on the disk lie, behind %d steps, %v\nnot, behind %d, %v", what, w.fs.Steps(), w.fs.Image(), w.d.fs.Steps(), w.d.fs.Image())
	}
	if s.Closed() || w.fs.Down() {
		return
	}
	var want []api.Record
	for i, e := range w.d.events[s.Floor():] {
		want = append(want, api.Record{Seq: s.Floor() + 1 + i, Event: e})
	}
	if rs, bad := s.Read(s.Floor() + 1); !slices.Equal(rs, want) || bad != api.OK {
		t.Fatalf("%s: Read = %v, %d, not %v", what, rs, bad, want)
	}
}

// Any calls, and the answers, the disk and its steps are those of the model, whether the power fails or not (P20.1 to P20.7).
func TestP20AnyCalls(t *testing.T) {
	r := rand.New(rand.NewSource(20))
	count := map[string]int{}
	for range 900 {
		room := 200 + r.Intn(1200)
		w := walk{fs: simfs.New(room), d: &model{fs: simfs.New(room)}}
		for range 1 + r.Intn(5) {
			keep := []int{r.Intn(80), r.Intn(80), r.Intn(80), r.Intn(80)}
			w.disks(func(fs *simfs.FS) { fs.Restart(keep) })
			if !w.open(t, api.Config{Stride: 1 + r.Intn(4), SegEvents: 1 + r.Intn(5)}) {
				continue
			}
			for range r.Intn(40) {
				if r.Intn(40) == 0 {
					n := 1 + r.Intn(15)
					w.disks(func(fs *simfs.FS) { fs.Fuse(n) })
				}
				if r.Intn(25) == 0 {
					name, size := fmt.Sprint("alien", r.Intn(3)), r.Intn(80)
					w.disks(func(fs *simfs.FS) { fs.Create(name); fs.Append(name, make([]byte, size)) })
				}
				if r.Intn(25) == 0 {
					w.disks(func(fs *simfs.FS) { fs.Remove("alien0"); fs.Remove("alien1") })
				}
				what, bad := w.call(t, r)
				w.hold(t, what)
				count[fmt.Sprintf("%.7s %d", what, bad)]++
				if w.s.Closed() && r.Intn(3) == 0 {
					break
				}
			}
		}
	}
	for _, what := range []string{"Snapsho 0", "Snapsho 2", "Snapsho 3", "Snapsho 54", "Snapsho 93", "Compact 0", "Compact 2", "Compact 3", "Compact 54", "Compact 94", "States 0", "States 2", "Book 0", "Book 2"} {
		if count[what] < 20 {
			t.Errorf("%s was answered %d times", what, count[what])
		}
	}
}

// Neither call changes the events above the floor, Last, or the states: those of a store that is kept small are those of one that never is.
func TestP20_6NothingChanges(t *testing.T) {
	r := rand.New(rand.NewSource(6))
	for range 80 {
		cfg := api.Config{Stride: 1 + r.Intn(4), SegEvents: 1 + r.Intn(5)}
		s, bad := store.Open(simfs.New(1<<16), cfg)
		other, e := store.Open(simfs.New(1<<16), cfg)
		if bad != api.OK || e != api.OK {
			t.Fatalf("Open: %d, %d", bad, e)
		}
		for range 40 {
			switch r.Intn(5) {
			case 0:
				if bad := upkeep.Snapshot(s); bad != api.OK && bad != api.ErrEmpty {
					t.Fatalf("Snapshot: %d", bad)
				}
			case 1:
				if _, bad := upkeep.Compact(s); bad != api.OK && bad != api.ErrNoSnap {
					t.Fatalf("Compact: %d", bad)
				}
			default:
				raw, _ := someEvent(r)
				s.Put(raw)
				other.Put(raw)
			}
			all, _ := other.Read(1)
			rs, bad := s.Read(s.Floor() + 1)
			if s.Last() != other.Last() || !slices.Equal(rs, all[s.Floor():]) || bad != api.OK {
				t.Fatalf("Last %d, Read = %v, %d", s.Last(), rs, bad)
			}
			ss, bad := upkeep.States(s)
			want, _ := upkeep.States(other)
			if !sameStates(ss, want) || bad != api.OK {
				t.Fatalf("States = %v, %d, not %v", ss, bad, want)
			}
		}
	}
}

// In one script the power fails in each step, and again in each step of the opening behind it, whatever is kept: all events that were safe, and all states, are there again.
func TestP2ThePowerFailsInEachStep(t *testing.T) {
	script := "aasacasccaasacrascaasac"
	open := func(fs *simfs.FS) (*store.Store, api.Errno) {
		return store.Open(fs, api.Config{Stride: 2, SegEvents: 3})
	}
	ended := false
	for fuse := 1; !ended; fuse++ {
		for _, kept := range []int{0, 1, 24, 25, 1000} {
			fs := simfs.New(9000)
			s, _ := open(fs)
			fs.Fuse(fuse)
			d := &model{fs: fs}
			safe := 0
			ended = true
			for i, what := range script {
				var bad api.Errno
				switch what {
				case 'a':
					_, bad = s.Append(5, place(1+i%5))
					d.events = append(d.events, place(1+i%5))
				case 's':
					bad = upkeep.Snapshot(s)
				case 'c':
					_, bad = upkeep.Compact(s)
				case 'r':
					bad = s.Rotate()
				}
				if bad == api.ErrDown {
					ended = false
					break
				}
				if bad == api.OK && (what == 's' || what == 'r') {
					safe = len(d.events)
				}
			}
			fs.Restart(slices.Repeat([]int{kept}, 9))
			for again := 1; ; again++ {
				fs.Fuse(again)
				s, bad := open(fs)
				fs.Fuse(0)
				if bad == api.ErrDown {
					fs.Restart(slices.Repeat([]int{kept}, 9))
					continue
				}
				if bad != api.OK || s.Last() < safe || s.Last() > len(d.events) {
					t.Fatalf("fuse %d, kept %d: Open: %d, Last %d of %d to %d", fuse, kept, bad, s.Last(), safe, len(d.events))
				}
				if ss, bad := upkeep.States(s); !sameStates(ss, d.states(s.Last())) || bad != api.OK {
					t.Fatalf("fuse %d, kept %d: States = %v, %d", fuse, kept, ss, bad)
				}
				s.Append(5, place(50))
				if bad := upkeep.Snapshot(s); bad != api.OK {
					t.Fatalf("fuse %d, kept %d: Snapshot: %d", fuse, kept, bad)
				}
				if _, bad := upkeep.Compact(s); bad != api.OK || s.Floor() != s.Last() || len(fs.List()) != 3 {
					t.Fatalf("fuse %d, kept %d: Compact: %d, %v", fuse, kept, bad, fs.List())
				}
				break
			}
		}
		if fuse > 300 {
			t.Fatal("the script never ends")
		}
	}
}

// A store on which another hand has been at work: nothing is promised, but that the calls end and don't panic.
func TestRule1AnotherHand(t *testing.T) {
	hands := map[string]func(fs *simfs.FS){
		"the book is gone":     func(fs *simfs.FS) { fs.Remove(bookFile(4)) },
		"a segment is gone":    func(fs *simfs.FS) { fs.Remove(file(5)) },
		"the active is gone":   func(fs *simfs.FS) { fs.Remove(file(9)) },
		"the active is cut":    func(fs *simfs.FS) { fs.Cut(file(9), 30) },
		"the manifest is gone": func(fs *simfs.FS) { fs.Remove("manifest") },
		"another manifest":     func(fs *simfs.FS) { fs.Create("manifest.tmp") },
		"the next segment":     func(fs *simfs.FS) { fs.Create(file(12)) },
		"all is gone": func(fs *simfs.FS) {
			for _, name := range fs.List() {
				fs.Remove(name)
			}
		},
		"it was restarted": func(fs *simfs.FS) { fs.Restart(nil) },
	}
	for _, hand := range hands {
		for _, snap := range []int{4, 7} {
			fs := stocked(0, snap, 2, 2, 3).disk(t, 5000)
			s := opened(t, fs, 9)
			if snap == 4 {
				s.Append(5, place(8))
			}
			hand(fs)
			for range 2 {
				for _, call := range calls() {
					call(s)
				}
			}
		}
	}
}
