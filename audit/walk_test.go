package audit_test

import (
	"fmt"
	"math/rand"
	"slices"
	"testing"

	"daybook/api"
	"daybook/audit"
	"daybook/journal"
	"daybook/schema"
	"daybook/simfs"
)

// sound holds what lies on a disk to being sound, and the model to saying so too.
func sound(t *testing.T, what string, fs *simfs.FS) {
	t.Helper()
	files := fs.Image()
	if !audit.Sound(files) || len(modelLook(files)) > 0 {
		t.Fatalf("%s: %v is wrong with %v", what, audit.Look(files), files)
	}
}

// call makes one call of a journal, right or wrong.
func call(r *rand.Rand, j *journal.Journal) (string, api.Errno) {
	switch r.Intn(16) {
	case 0:
		return "Sync", j.Sync()
	case 1:
		return "Rotate", j.Rotate()
	case 2, 3:
		return "Snapshot", j.Snapshot()
	case 4, 5:
		_, bad := j.Compact()
		return "Compact", bad
	case 6:
		_, bad := j.Load(r.Intn(7))
		return "Load", bad
	case 7:
		_, bad := j.Replay(r.Intn(30))
		return "Replay", bad
	case 8:
		raw := make([]byte, r.Intn(9))
		r.Read(raw)
		_, bad := j.Put(raw)
		return "Put", bad
	case 9:
		if r.Intn(3) == 0 {
			return "Close", j.Close()
		}
	}
	v := r.Intn(7)
	e := api.Event{Kind: api.Kind(r.Intn(12)), Order: r.Intn(6), Item: r.Intn(3), Qty: r.Intn(4), Price: r.Intn(3)}
	if r.Intn(3) > 0 {
		kinds := schema.Kinds(5)
		v, e.Kind, e.Order, e.Who = 5, kinds[r.Intn(len(kinds))], 1+r.Intn(6), []string{"", "ann"}[r.Intn(2)]
	}
	_, bad := j.Append(v, e)
	return "Append", bad
}

// Behind any calls, and behind any loss of power and an opening that went well, the disk is sound.
func TestP22_4AnyCalls(t *testing.T) {
	r := rand.New(rand.NewSource(4))
	count := map[string]int{}
	unsound := 0
	for range 400 {
		fs := simfs.New(200 + r.Intn(2500))
		if r.Intn(3) == 0 { // aliens are nobody's business
			fs.Create("alien")
			fs.Append("alien", make([]byte, r.Intn(100)))
		}
		for range 1 + r.Intn(8) {
			if r.Intn(3) == 0 {
				fs.Fuse(1 + r.Intn(40))
			}
			j, bad := journal.Open(fs, api.Config{Stride: 1 + r.Intn(4), SegEvents: 1 + r.Intn(5)})
			if bad == api.ErrDown {
				fs.Restart([]int{r.Intn(60), r.Intn(60), r.Intn(60), r.Intn(60)})
				continue
			}
			if bad != api.OK {
				t.Fatalf("Open: %d", bad)
			}
			sound(t, "Open", fs)
			for range r.Intn(40) {
				what, bad := call(r, j)
				count[fmt.Sprint(what, " ", bad)]++
				if bad == api.ErrDown {
					break
				}
				sound(t, what, fs)
				if j.Closed() && r.Intn(2) == 0 {
					break
				}
			}
			if !audit.Sound(fs.Image()) { // the power has failed in the midst of a step
				unsound++
			}
			if fs.Down() || r.Intn(2) == 0 {
				fs.Restart([]int{r.Intn(60), r.Intn(60), r.Intn(60), r.Intn(60), r.Intn(60)})
			}
		}
	}
	for _, what := range []string{"Sync 0", "Sync 3", "Rotate 0", "Rotate 54", "Rotate 93", "Snapshot 0", "Snapshot 3", "Snapshot 54", "Snapshot 93", "Compact 0", "Compact 3", "Compact 94", "Append 0", "Append 2", "Append 3", "Append 32", "Append 54", "Put 10", "Close 0", "Load 0", "Replay 95"} {
		if count[what] < 3 {
			t.Errorf("%s was answered %d times", what, count[what])
		}
	}
	if unsound < 20 {
		t.Errorf("%d times only was there something to mend", unsound)
	}
}

// In one script the power fails in each step, and in each step of the openings behind it, and whatever is kept.
func TestP22_4InEachStep(t *testing.T) {
	ended := false
	for fuse := 1; !ended; fuse++ {
		for _, kept := range []int{0, 1, 21, 22, 24, 25, 29, 40, 1000} {
			fs := simfs.New(9000)
			fs.Fuse(fuse)
			ended = play(t, fs)
			for again := 1; ; again++ {
				fs.Restart(slices.Repeat([]int{kept}, 9))
				fs.Fuse(again)
				j, bad := journal.Open(fs, api.Config{Stride: 3, SegEvents: 2})
				fs.Fuse(0)
				if bad == api.ErrDown {
					continue
				}
				if bad != api.OK {
					t.Fatalf("fuse %d, kept %d: Open: %d", fuse, kept, bad)
				}
				sound(t, fmt.Sprint("fuse ", fuse, ", kept ", kept), fs)
				j.Append(5, api.Event{Kind: api.Place, Order: 30})
				j.Rotate()
				sound(t, fmt.Sprint("fuse ", fuse, ", kept ", kept, ", and on"), fs)
				break
			}
		}
		if fuse > 300 {
			t.Fatal("the script never ends")
		}
	}
}

// play opens a journal and makes a few calls of each kind; a false: the power has failed.
func play(t *testing.T, fs *simfs.FS) bool {
	t.Helper()
	j, bad := journal.Open(fs, api.Config{Stride: 2, SegEvents: 3})
	if bad != api.OK {
		return false
	}
	sound(t, "a new store", fs)
	for i, what := range "aayasaacaasaracaasc" {
		switch what {
		case 'a':
			_, bad = j.Append(1+i%5, api.Event{Kind: api.Place, Order: 1 + i%5})
		case 'y':
			bad = j.Sync()
		case 's':
			bad = j.Snapshot()
		case 'c':
			_, bad = j.Compact()
		case 'r':
			bad = j.Rotate()
		}
		if bad == api.ErrDown {
			return false
		}
		sound(t, string(what), fs)
	}
	return true
}
