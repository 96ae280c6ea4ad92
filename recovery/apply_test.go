package recovery_test

import (
	"bytes"
	"fmt"
	"math"
	"math/rand"
	"reflect"
	"slices"
	"testing"

	"daybook/api"
	"daybook/recovery"
	"daybook/simfs"
)

func TestP18_4WrongArguments(t *testing.T) {
	right := api.Plan{Manifest: grown().m, Cut: 85, Last: 31}
	if bad := recovery.Apply(nil, right); bad != api.ErrArg {
		t.Errorf("no disk: %d", bad)
	}
	if bad := recovery.Apply(nil, api.Plan{}); bad != api.ErrArg {
		t.Errorf("no disk and no plan: %d", bad)
	}
	for what, change := range map[string]func(m *api.Manifest){
		"a zero manifest": func(m *api.Manifest) { *m = api.Manifest{} },
		"no segments":     func(m *api.Manifest) { m.Segs = nil },
		"Gen 0":           func(m *api.Manifest) { m.Gen = 0 },
		"a gap":           func(m *api.Manifest) { m.Segs[3].First++ },
		"Next too low":    func(m *api.Manifest) { m.Next = 11 },
	} {
		for _, fresh := range []bool{false, true} {
			m := grown().m
			change(&m)
			p := api.Plan{Fresh: fresh, Manifest: m, Remove: []string{"seg-000011"}, Cut: 22}
			fs := grown().disk(t)
			if bad := recovery.Apply(fs, p); bad != api.ErrArg || fs.Steps() != 0 {
				t.Errorf("%s: %d", what, bad)
			}
			if bad := recovery.Apply(off(fs), p); bad != api.ErrArg {
				t.Errorf("%s, the power is off: %d", what, bad)
			}
		}
	}
}

// The steps of a new store, one after the other, and what stands there when the power fails in each.
func TestP18_4TheFreshSteps(t *testing.T) {
	files := map[string][]byte{"x": {1}, "manifest.tmp": {2, 3}, "seg-000001": {4}, "seg-000004": {5}}
	p := api.Plan{Fresh: true, Manifest: fresh(), Remove: []string{"seg-000004", "manifest.tmp", "seg-000001"}, Cut: 22}
	head, m := header(1, 1), written(fresh())
	x := api.File{Name: "x", Data: []byte{1}, Safe: 1}
	temp, seg, four := api.File{Name: "manifest.tmp", Data: []byte{2, 3}, Safe: 2}, api.File{Name: "seg-000001", Data: []byte{4}, Safe: 1}, api.File{Name: "seg-000004", Data: []byte{5}, Safe: 1}
	empty, half, done := api.File{Name: "seg-000001"}, api.File{Name: "seg-000001", Data: head}, api.File{Name: "seg-000001", Data: head, Safe: 22}
	for n, want := range [][]api.File{
		{temp, seg, four, x},
		{temp, seg, x},
		{seg, x},
		{x},
		{half, x}, // of Append the bytes stand there
		{half, x},
		{done, x},
		{{Name: "manifest.tmp", Data: m}, done, x},
		{{Name: "manifest.tmp", Data: m}, done, x},
		{{Name: "manifest.tmp", Data: m, Safe: 29}, done, x},
		{{Name: "manifest", Data: m, Safe: 29}, done, x},
	} {
		fs := mounted(t, 100, files)
		fs.Fuse(n + 1)
		bad := recovery.Apply(fs, p)
		if (bad == api.OK) != (n == 10) || bad != api.OK && bad != api.ErrDown || fs.Steps() != n {
			t.Errorf("step %d: Apply answers %d, %d steps", n+1, bad, fs.Steps())
		}
		same(t, fmt.Sprint("step ", n+1), fs, want)
	}
	// Where the room ends behind the Create, the empty file stays.
	fs := mounted(t, 22, map[string][]byte{"x": {1}})
	if bad := recovery.Apply(fs, api.Plan{Fresh: true, Manifest: fresh()}); bad != api.ErrFull {
		t.Errorf("no room for the header: %d", bad)
	}
	same(t, "no room for the header", fs, []api.File{empty, x})
}

// same asks for these files, with what is safe of them.
func same(t *testing.T, what string, fs *simfs.FS, want []api.File) {
	t.Helper()
	if !slices.EqualFunc(fs.Image(), want, func(a, b api.File) bool {
		return a.Name == b.Name && bytes.Equal(a.Data, b.Data) && a.Safe == b.Safe
	}) {
		t.Errorf("%s: there lie %v, not %v", what, fs.Image(), want)
	}
}

func TestP18_4TheOtherSteps(t *testing.T) {
	p := api.Plan{Manifest: fresh(), Remove: []string{"seg-000004", "manifest.tmp"}, Cut: 3}
	list := []api.File{{Name: "manifest.tmp", Data: []byte{2, 3}}, {Name: "seg-000001", Data: []byte{6, 7, 8, 9, 0}, Safe: 1}, {Name: "seg-000004"}}
	temp, seg, four := list[0], list[1], list[2]
	cut, safe := api.File{Name: "seg-000001", Data: []byte{6, 7, 8}, Safe: 1}, api.File{Name: "seg-000001", Data: []byte{6, 7, 8}, Safe: 3}
	for n, want := range [][]api.File{{temp, seg, four}, {temp, seg}, {seg}, {cut}, {safe}} {
		fs, _ := simfs.Mount(100, list)
		fs.Fuse(n + 1)
		bad := recovery.Apply(fs, p)
		if (bad == api.OK) != (n == 4) || bad != api.OK && bad != api.ErrDown || fs.Steps() != n {
			t.Errorf("step %d: Apply answers %d, %d steps", n+1, bad, fs.Steps())
		}
		same(t, fmt.Sprint("step ", n+1), fs, want)
		if fs.ReadBytes() != 0 {
			t.Errorf("step %d: %d bytes read", n+1, fs.ReadBytes())
		}
	}
}

func TestP18_4WhereItIsCut(t *testing.T) {
	for _, x := range []struct {
		cut, left, steps int
		bad              api.Errno
	}{
		{math.MinInt, 5, 0, api.ErrArg}, {-1, 5, 0, api.ErrArg}, {0, 0, 2, api.OK}, {1, 1, 2, api.OK}, {4, 4, 2, api.OK}, {5, 5, 1, api.OK}, {6, 5, 1, api.OK}, {math.MaxInt, 5, 1, api.OK},
	} {
		fs, _ := simfs.Mount(100, []api.File{{Name: "seg-000001", Data: []byte{1, 2, 3, 4, 5}, Safe: 2}})
		if bad := recovery.Apply(fs, api.Plan{Manifest: fresh(), Cut: x.cut, Last: 77}); bad != x.bad || fs.Steps() != x.steps {
			t.Errorf("cut to %d: %d, %d steps", x.cut, bad, fs.Steps())
		}
		safe := x.left
		if x.bad != api.OK {
			safe = 2
		}
		same(t, fmt.Sprint("cut to ", x.cut), fs, []api.File{{Name: "seg-000001", Data: []byte{1, 2, 3, 4, 5}[:x.left], Safe: safe}})
	}
}

func TestP18_4TheLastSegmentByItsNumbers(t *testing.T) {
	s := grown()
	fs := simfs.New(1000)
	if bad := recovery.Apply(fs, api.Plan{Fresh: true, Manifest: s.m, Cut: 1, Last: 3}); bad != api.OK {
		t.Fatalf("Apply: %d", bad)
	}
	lies(t, "another manifest", fs, map[string][]byte{"manifest": written(s.m), "seg-000011": header(11, 29)})
	fs = s.disk(t)
	if bad := recovery.Apply(fs, api.Plan{Manifest: s.m, Cut: 43}); bad != api.OK || fs.Steps() != 2 {
		t.Errorf("Apply: %d, %d steps", bad, fs.Steps())
	}
	s.files["seg-000011"] = s.files["seg-000011"][:43]
	lies(t, "cut", fs, s.all())
}

func TestP18_4RefusedSteps(t *testing.T) {
	files := map[string][]byte{"manifest": written(fresh()), "seg-000001": header(1, 1), "seg-000002": {1}, "seg-000003": {2}}
	for _, x := range []struct {
		what  string
		p     api.Plan
		bad   api.Errno
		steps int
	}{
		{"a name that isn't there", api.Plan{Manifest: fresh(), Remove: []string{"seg-000002", "seg-000009", "seg-000003"}, Cut: 1}, api.ErrNoFile, 1},
		{"a name twice", api.Plan{Manifest: fresh(), Remove: []string{"seg-000002", "seg-000002"}, Cut: 1}, api.ErrNoFile, 1},
		{"no right name", api.Plan{Manifest: fresh(), Remove: []string{"seg-000003", "Seg"}, Cut: 1}, api.ErrName, 1},
		{"an empty name", api.Plan{Fresh: true, Manifest: fresh(), Remove: []string{""}}, api.ErrName, 0},
		{"the segment is there", api.Plan{Fresh: true, Manifest: fresh(), Remove: []string{"seg-000002"}}, api.ErrExists, 1},
		{"the segment is removed", api.Plan{Manifest: fresh(), Remove: []string{"seg-000001"}}, api.ErrNoFile, 1},
		{"no such segment", api.Plan{Manifest: grown().m, Cut: 22}, api.ErrNoFile, 0},
		{"removed and laid anew", api.Plan{Fresh: true, Manifest: fresh(), Remove: []string{"seg-000001", "manifest"}}, api.OK, 9},
		{"cut away", api.Plan{Manifest: fresh(), Remove: []string{"manifest"}, Cut: 0}, api.OK, 3},
	} {
		fs := mounted(t, 200, files)
		if bad := recovery.Apply(fs, x.p); bad != x.bad || fs.Steps() != x.steps {
			t.Errorf("%s: %d, %d steps, not %d, %d", x.what, bad, fs.Steps(), x.bad, x.steps)
		}
	}
	fs := mounted(t, 200, map[string][]byte{"manifest.tmp": {}})
	if bad := recovery.Apply(fs, api.Plan{Fresh: true, Manifest: fresh()}); bad != api.ErrExists || fs.Steps() != 3 {
		t.Errorf("a stray is in the manifest's way: %d, %d steps", bad, fs.Steps())
	}
	fs = simfs.New(50)
	if bad := recovery.Apply(fs, api.Plan{Fresh: true, Manifest: fresh()}); bad != api.ErrFull || fs.Steps() != 4 {
		t.Errorf("no room for the manifest: %d, %d steps", bad, fs.Steps())
	}
	fs = off(mounted(t, 200, files))
	for _, p := range []api.Plan{{Manifest: fresh(), Cut: 22}, {Fresh: true, Manifest: fresh()}, {Manifest: fresh(), Remove: []string{"Seg"}}} {
		if bad := recovery.Apply(fs, p); bad != api.ErrDown {
			t.Errorf("the power is off: %d", bad)
		}
	}
	lies(t, "the power is off", fs, files)
}

func TestP18_5Run(t *testing.T) {
	s := grown()
	for _, name := range []string{"manifest.tmp", "seg-000012", "book-000001", "book-000012"} {
		s.files[name] = []byte("stray")
	}
	s.files["alien"] = []byte("alien")
	right := s.files["seg-000011"]
	s.files["seg-000011"] = append(bytes.Clone(right), 1, 2, 3)
	fs := s.disk(t)
	want := planned(t, "a store with strays", fs)
	if p, bad := recovery.Run(fs); bad != api.OK || !samePlan(p, want) {
		t.Errorf("Run = %v, %d, not %v", p, bad, want)
	}
	if fs.Steps() != 6 {
		t.Errorf("%d steps", fs.Steps())
	}
	whole := grown()
	whole.files["alien"] = []byte("alien")
	lies(t, "a store with strays", fs, whole.all())
	for n := 1; n <= 6; n++ {
		fs := s.disk(t)
		fs.Fuse(n)
		if p, bad := recovery.Run(fs); bad != api.ErrDown || !samePlan(p, api.Plan{}) {
			t.Errorf("the power fails in step %d: %v, %d", n, p, bad)
		}
	}
	fs = whole.disk(t)
	if p, bad := recovery.Run(fs); bad != api.OK || p.Fresh || len(p.Remove) != 0 || fs.Steps() != 1 {
		t.Errorf("where nothing is to be done: %v, %d, %d steps", p, bad, fs.Steps())
	}
}

// wounded is stores to which a recovery has something to do.
func wounded() map[string]map[string][]byte {
	s := grown()
	s.files["seg-000011"] = append(bytes.Clone(s.files["seg-000011"]), 7, 7, 7)
	s.files["manifest.tmp"], s.files["seg-000012"], s.files["book-000002"], s.files["x"] = []byte{1}, header(12, 32), nil, []byte{2}
	sealed := stocked(0, 0, 2, 3, 3)
	sealed.files["seg-000007"] = append(bytes.Clone(sealed.files["seg-000007"]), footer(7, 4, 3, 2, every(22, 4, 3, 2)...)...)
	return map[string]map[string][]byte{
		"an empty disk":             {},
		"aliens and strays":         {"x": {1, 2}, "manifest.tmp": written(fresh()), "seg-000001": header(1, 1)[:9], "book-000009": {}},
		"a new store torn":          {"seg-000001": header(1, 1)},
		"a grown store":             s.all(),
		"a segment sealed too soon": sealed.all(),
		"a right store":             grown().all(),
	}
}

// The power fails in each step of a recovery, and in each step of the one behind it, and whatever is kept.
func TestP18_7ThePowerFails(t *testing.T) {
	for what, files := range wounded() {
		want, bad := recovery.Plan(mounted(t, 1<<12, files))
		if bad != api.OK {
			t.Fatalf("%s: %d", what, bad)
		}
		for first := 1; first <= 13; first++ {
			for second := range 13 {
				for _, kept := range []int{0, 1, 15, 21, 22, 28, 29, 99} {
					fs := mounted(t, 1<<12, files)
					for _, fuse := range []int{first, second, 0} {
						fs.Fuse(fuse)
						p, bad := recovery.Run(fs)
						if bad == api.OK {
							found(t, fmt.Sprint(what, ", fuses ", first, second), p, want)
							break
						}
						if bad != api.ErrDown || fuse == 0 {
							t.Fatalf("%s, fuses %d and %d, %d kept: %d", what, first, second, kept, bad)
						}
						fs.Restart([]int{kept, kept, kept, kept, kept, kept, kept, kept, kept})
					}
					fs.Fuse(0)
					settled(t, fs, want)
				}
			}
		}
	}
}

// found holds a plan to the Cut, the Last and the manifest that the first of all would have found.
func found(t *testing.T, what string, p, want api.Plan) {
	t.Helper()
	if p.Cut != want.Cut || p.Last != want.Last || !sameManifest(p.Manifest, want.Manifest) {
		t.Fatalf("%s: found %v, not %v", what, p, want)
	}
}

func TestP18_7AgainAndAgain(t *testing.T) {
	r := rand.New(rand.NewSource(2))
	broken := 0
	for range 3000 {
		s := someShop(r)
		for range r.Intn(4) {
			s.files[fmt.Sprintf("%s-%06d", []string{"seg", "book"}[r.Intn(2)], 30+r.Intn(99))] = make([]byte, r.Intn(50))
		}
		name := s.name(len(s.m.Segs) - 1)
		s.files[name] = append(s.files[name], make([]byte, r.Intn(30))...)
		files := s.all()
		if r.Intn(3) == 0 {
			delete(files, "manifest")
		}
		fs := mounted(t, 1<<14, files)
		want, bad := modelPlan(1<<14, files)
		if bad != api.OK {
			t.Fatalf("%v: %d", s, bad)
		}
		for {
			fs.Fuse(1 + r.Intn(9))
			p, bad := recovery.Run(fs)
			if bad == api.OK {
				found(t, "again and again", p, want)
				break
			}
			broken++
			fs.Restart([]int{r.Intn(40), r.Intn(40), r.Intn(40), r.Intn(40), r.Intn(40), r.Intn(40)})
		}
		fs.Fuse(0)
		settled(t, fs, want)
	}
	if broken < 1000 {
		t.Errorf("broken off %d times", broken)
	}
}

// What a recovery has made safe outlives the loss of power behind it.
func TestP18_7AndThenThePowerFails(t *testing.T) {
	for what, files := range wounded() {
		fs := mounted(t, 1<<12, files)
		want, bad := recovery.Run(fs)
		if bad != api.OK {
			t.Fatalf("%s: %d", what, bad)
		}
		image := fs.Image()
		fs.Restart(nil)
		if !reflect.DeepEqual(fs.Image(), image) {
			t.Errorf("%s: something was not safe", what)
		}
		settled(t, fs, want)
	}
}

func TestRule4ArgumentsStay(t *testing.T) {
	names := []string{"seg-000002", "seg-000003", "further"}
	segs := append(grown().m.Segs, api.Seg{Num: 99})
	p := api.Plan{Manifest: grown().m, Remove: names[:2], Cut: 22}
	p.Manifest.Segs = segs[:4]
	kept, keptNames, keptSegs := clonePlan(p), slices.Clone(names), slices.Clone(segs)
	for _, fresh := range []bool{false, true} {
		fs := mounted(t, 1000, map[string][]byte{"seg-000002": nil, "seg-000003": nil})
		p.Fresh, kept.Fresh = fresh, fresh
		recovery.Apply(fs, p)
		if !samePlan(p, kept) || !slices.Equal(names, keptNames) || !slices.Equal(segs, keptSegs) {
			t.Errorf("the plan is %v", p)
		}
		clear(names)
		clear(segs)
		if fresh {
			lies(t, "what was handed in is kept", fs, map[string][]byte{"manifest": written(grown().m), "seg-000011": header(11, 29)})
		}
		copy(names, keptNames)
		copy(segs, keptSegs)
	}
}

func TestRule4AnswersAreNewMemory(t *testing.T) {
	s := grown()
	s.files["manifest.tmp"], s.files["seg-000012"] = nil, nil
	for what, files := range map[string]map[string][]byte{"a store": s.all(), "a new one": {"manifest.tmp": nil, "seg-000012": nil}} {
		fs := mounted(t, 1<<20, files)
		p := planned(t, what, fs)
		want := clonePlan(p)
		clear(p.Remove[:cap(p.Remove)])
		clear(p.Manifest.Segs[:cap(p.Manifest.Segs)])
		p, bad := recovery.Run(fs)
		if bad != api.OK || !samePlan(p, want) {
			t.Errorf("%s: %v, %d, not %v", what, p, bad, want)
		}
		clear(p.Remove[:cap(p.Remove)])
		clear(p.Manifest.Segs[:cap(p.Manifest.Segs)])
		settled(t, fs, want)
	}
}

func TestRule6DisksNeverMeet(t *testing.T) {
	a, b := grown().disk(t), simfs.New(51)
	image := a.Image()
	if p, bad := recovery.Run(b); bad != api.OK || !p.Fresh {
		t.Errorf("the second disk: %v, %d", p, bad)
	}
	if !reflect.DeepEqual(a.Image(), image) || a.Steps() != 0 {
		t.Error("the first disk was changed")
	}
	if p, bad := recovery.Run(a); bad != api.OK || p.Fresh || p.Last != 31 {
		t.Errorf("the first disk: %v, %d", p, bad)
	}
}
