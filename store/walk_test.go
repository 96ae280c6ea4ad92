package store_test

import (
	"fmt"
	"math/rand"
	"slices"
	"testing"

	"daybook/api"
	"daybook/schema"
	"daybook/segment"
	"daybook/simfs"
	"daybook/store"
)

// walk is a store and the model over two disks that are treated alike.
type walk struct {
	fs, other *simfs.FS
	s         *store.Store
	d         *model
	cfg       api.Config
}

func (w *walk) disks(do func(fs *simfs.FS)) {
	do(w.fs)
	do(w.other)
}

// open opens both, anew if they were open.
func (w *walk) open(t *testing.T, r *rand.Rand) {
	t.Helper()
	w.cfg = api.Config{Stride: 1 + r.Intn(4), SegEvents: 1 + r.Intn(5)}
	s, bad := store.Open(w.fs, w.cfg)
	d, want := modelOpen(w.other, w.cfg)
	if bad != want || (s == nil) != (bad != api.OK) {
		t.Fatalf("Open = %v, %d, not %d", s, bad, want)
	}
	w.s, w.d = s, d
}

// call makes one call on both, and holds the answers against each other.
func (w *walk) call(t *testing.T, r *rand.Rand) (string, api.Errno) {
	t.Helper()
	what, n, want := "", 0, 0
	var bad, wanted api.Errno
	switch r.Intn(16) {
	case 0:
		what, bad, wanted = "Sync", w.s.Sync(), w.d.sync()
	case 1:
		what, bad, wanted = "Rotate", w.s.Rotate(), w.d.rotate(0)
	case 2:
		what, bad, wanted = "Close", w.s.Close(), w.d.close()
	case 3, 4:
		m := w.someManifest(r)
		what, bad, wanted = fmt.Sprint("Swap ", m), w.s.Swap(m), w.d.swap(m)
	case 5, 6, 7:
		from := r.Intn(w.d.last+4) - 1
		records, b := w.s.Read(from)
		right, e := w.d.read(from)
		what, bad, wanted = fmt.Sprint("Read ", from), b, e
		if !slices.Equal(records, right) {
			t.Fatalf("Read(%d) = %v, not %v", from, records, right)
		}
	case 8:
		raw := make([]byte, r.Intn(5))
		r.Read(raw)
		what = fmt.Sprintf("Put %x", raw)
		n, bad = w.s.Put(raw)
		want, wanted = w.d.put(raw)
	default:
		v, e := someEvent(r)
		raw, _ := schema.Pack(v, e)
		what = fmt.Sprint("Append ", v, e)
		n, bad = w.s.Append(v, e)
		want, wanted = w.d.put(raw)
	}
	if n != want || bad != wanted {
		t.Fatalf("%s = %d, %d, not %d, %d", what, n, bad, want, wanted)
	}
	return what, bad
}

// someManifest is the manifest with a Gen more and something else, right or wrong; it may want a segment that is laid first.
func (w *walk) someManifest(r *rand.Rand) api.Manifest {
	m := cloned(w.d.m)
	m.Gen++
	switch r.Intn(6) {
	case 0:
		m.Gen += r.Intn(3) - 1
	case 1:
		m.Segs = m.Segs[:len(m.Segs)-1]
	case 2:
		m.Next += r.Intn(3)
	case 3: // the first segments go; there is no book, but nobody looks for it until the store is opened anew
		k := r.Intn(len(m.Segs))
		m.Segs = m.Segs[k:]
		m.Floor = m.Segs[0].First - 1
	case 4:
		if w.d.alive() == api.OK { // all go
			w.lay(m.Next, w.d.last+1, r.Intn(4)/3)
			m.Floor, m.Segs = w.d.last, []api.Seg{{Num: m.Next, First: w.d.last + 1}}
			m.Next++
		}
	}
	if m.Floor > 0 {
		m.Snap, m.SnapSeq = 1, max(m.Floor, m.SnapSeq)
	}
	return m
}

// lay lays the file of a new segment, as layer 20 does, with so many bytes too few.
func (w *walk) lay(num, first, less int) {
	head, bad := segment.Header(num, first)
	if bad != api.OK || w.fs.Free() < len(head) {
		return
	}
	head = head[less:]
	w.disks(func(fs *simfs.FS) {
		fs.Create(file(num))
		fs.Append(file(num), head)
		fs.Sync(file(num))
	})
}

// Any calls, and the answers, the disk and its steps are those of the model, whether the power fails or not.
func TestP19AnyCalls(t *testing.T) {
	r := rand.New(rand.NewSource(19))
	count := map[api.Errno]int{}
	for range 1500 {
		room := 300 + r.Intn(3000)
		w := walk{fs: simfs.New(room), other: simfs.New(room)}
		for range 4 {
			w.disks(func(fs *simfs.FS) { fs.Restart(nil) })
			if w.open(t, r); w.s == nil {
				break
			}
			for range r.Intn(30) {
				if r.Intn(40) == 0 {
					n := 1 + r.Intn(15)
					w.disks(func(fs *simfs.FS) { fs.Fuse(n) })
				}
				if r.Intn(25) == 0 {
					name, size := fmt.Sprint("alien", r.Intn(3)), r.Intn(200)
					w.disks(func(fs *simfs.FS) { fs.Create(name); fs.Append(name, make([]byte, size)) })
				}
				what, bad := w.call(t, r)
				agree(t, what, w.s, w.fs, w.d)
				count[bad]++
				if blocked(w.d) || w.d.closed && r.Intn(3) == 0 {
					break
				}
			}
			if w.d.m.Floor > 0 { // there is no such book
				break
			}
		}
	}
	for _, bad := range []api.Errno{api.OK, api.ErrArg, api.ErrClosed, api.ErrDown, api.ErrFull, api.ErrEmpty, api.ErrCompacted, api.ErrShort} {
		if count[bad] < 100 {
			t.Errorf("%d was answered %d times", bad, count[bad])
		}
	}
}

// blocked tells whether the file that the next rotation wants lies there already: then nothing is promised any more.
func blocked(d *model) bool { return slices.Contains(d.fs.List(), file(d.m.Next)) }
