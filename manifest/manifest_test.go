package manifest_test

import (
	"bytes"
	"encoding/binary"
	"math"
	"math/rand"
	"slices"
	"strconv"
	"testing"

	"daybook/api"
	"daybook/frame"
	"daybook/manifest"
	"daybook/names"
	"daybook/simfs"
	"daybook/varint"
)

// agree holds all that a manifest is asked against the model.
func agree(t *testing.T, m api.Manifest) {
	t.Helper()
	kept := clone(m)
	valid, size := manifest.Valid(m), manifest.Size(m)
	b, bad := manifest.Encode(m)
	if !same(m, kept) {
		t.Fatalf("%#v was changed", kept)
	}
	if !modelValid(m) {
		if valid || size != 0 || len(b) != 0 || bad != api.ErrManifest {
			t.Fatalf("%#v: valid %v, size %d, %x, %d", m, valid, size, b, bad)
		}
		return
	}
	if !valid || bad != api.OK || !bytes.Equal(b, written(m)) || size != len(b) {
		t.Fatalf("%#v: valid %v, size %d, %x, %d", m, valid, size, b, bad)
	}
	if back, bad := manifest.Decode(b); bad != api.OK || !same(back, m) {
		t.Fatalf("Decode of the bytes of %#v = %#v, %d", m, back, bad)
	}
}

func encoded(t *testing.T, m api.Manifest) []byte {
	t.Helper()
	b, bad := manifest.Encode(m)
	if bad != api.OK {
		t.Fatalf("Encode(%#v): %d", m, bad)
	}
	return b
}

func TestP16_1Examples(t *testing.T) {
	b := encoded(t, fresh())
	if len(b) != 29 || !bytes.Equal(b[16:25], []byte{8, 2, 0, 0, 0, 1, 1, 0, 0}) || !bytes.Equal(b[:12], []byte{0xa5, 4, 9, 0, 1, 0, 0, 0, 0, 0, 0, 0}) {
		t.Errorf("the first example: %x", b)
	}
	if n := manifest.Size(fresh()); n != 29 {
		t.Errorf("its size: %d", n)
	}
	two := []api.Seg{{Num: 1, First: 1, Count: 3, Foot: 85}, {Num: 2, First: 4}}
	for next, valid := range map[int]bool{2: false, 3: true, 4: true} {
		if got := manifest.Valid(api.Manifest{Gen: 1, Next: next, Segs: two}); got != valid {
			t.Errorf("two segments, Next %d: %v", next, got)
		}
	}
	gap := []api.Seg{{Num: 1, First: 1, Count: 3, Foot: 85}, {Num: 2, First: 5}}
	if manifest.Valid(api.Manifest{Gen: 1, Next: 3, Segs: gap}) {
		t.Error("a gap between two segments")
	}
}

func TestP16_1ValidByWords(t *testing.T) {
	for what, change := range map[string]func(m *api.Manifest){
		"as it is":                       func(m *api.Manifest) {},
		"the greatest Gen":               func(m *api.Manifest) { m.Gen = api.MaxSeq },
		"the greatest Next":              func(m *api.Manifest) { m.Next = api.MaxNum + 1 },
		"a book of the greatest number":  func(m *api.Manifest) { m.Snap = m.Next - 1 },
		"a book with a segment's number": func(m *api.Manifest) { m.Snap = 5 },
		"a floor as high as the book":    func(m *api.Manifest) { m.SnapSeq = m.Floor },
		"a book above all events":        func(m *api.Manifest) { m.SnapSeq = api.MaxSeq },
		"the active segment alone":       func(m *api.Manifest) { m.Segs = []api.Seg{{Num: 11, First: 21}} },
		"a segment of number 1":          func(m *api.Manifest) { m.Segs[0].Num = 1 },
		"one event":                      func(m *api.Manifest) { m.Segs[1].Count, m.Segs[2].First, m.Segs[3].First = 1, 25, 26 },
		"footers at the edges":           func(m *api.Manifest) { m.Segs[0].Foot, m.Segs[1].Foot = 1, api.MaxSeq },
		"footers that do not rise":       func(m *api.Manifest) { m.Segs[0].Foot, m.Segs[1].Foot = 900, 900 },
	} {
		m := grown()
		change(&m)
		if !manifest.Valid(m) || !modelValid(m) {
			t.Errorf("%s: not valid", what)
		}
		agree(t, m)
	}
}

func TestP16_1NotValid(t *testing.T) {
	for what, change := range map[string]func(m *api.Manifest){
		"Gen 0":                              func(m *api.Manifest) { m.Gen = 0 },
		"Gen above MaxSeq":                   func(m *api.Manifest) { m.Gen = api.MaxSeq + 1 },
		"Next 1":                             func(m *api.Manifest) { m.Next = 1 },
		"Next above MaxNum + 1":              func(m *api.Manifest) { m.Next = api.MaxNum + 2 },
		"Next is a segment's number":         func(m *api.Manifest) { m.Next = 11 },
		"SnapSeq below 0":                    func(m *api.Manifest) { m.SnapSeq, m.Floor, m.Snap = -1, -1, 0 },
		"SnapSeq above MaxSeq":               func(m *api.Manifest) { m.SnapSeq = api.MaxSeq + 1 },
		"Floor above SnapSeq":                func(m *api.Manifest) { m.SnapSeq = m.Floor - 1 },
		"Snap is Next":                       func(m *api.Manifest) { m.Snap = m.Next },
		"Snap below 0":                       func(m *api.Manifest) { m.Snap = -1 },
		"SnapSeq without Snap":               func(m *api.Manifest) { m.Snap = 0 },
		"Snap without SnapSeq":               func(m *api.Manifest) { *m = fresh(); m.Snap = 1 },
		"no segments":                        func(m *api.Manifest) { m.Segs = nil },
		"a segment of number 0":              func(m *api.Manifest) { m.Segs[0].Num = 0 },
		"the same number twice":              func(m *api.Manifest) { m.Segs[1].Num = 2 },
		"a number that falls":                func(m *api.Manifest) { m.Segs[1].Num = 1 },
		"a gap behind the floor":             func(m *api.Manifest) { m.Floor = 19 },
		"the first one below the floor":      func(m *api.Manifest) { m.Floor = 21 },
		"a gap":                              func(m *api.Manifest) { m.Segs[0].Count = 2 },
		"an overlap":                         func(m *api.Manifest) { m.Segs[0].Count = 4 },
		"an active one ahead":                func(m *api.Manifest) { m.Segs[2] = api.Seg{Num: 8, First: 536}; m.Segs[3].First = 536 },
		"a sealed one without footer":        func(m *api.Manifest) { m.Segs[2].Foot = 0 },
		"a footer beyond MaxSeq":             func(m *api.Manifest) { m.Segs[2].Foot = api.MaxSeq + 1 },
		"more than MaxSegEvents":             func(m *api.Manifest) { m.Segs[2].Count, m.Segs[3].First = 513, 1049 },
		"no event in a sealed one":           func(m *api.Manifest) { m.Segs[2].Count, m.Segs[3].First = 0, 536 },
		"fewer than none in a sealed one":    func(m *api.Manifest) { m.Segs[2].Count, m.Segs[3].First = -1, 535 },
		"the last one sealed":                func(m *api.Manifest) { m.Segs[3].Count, m.Segs[3].Foot = 1, 43 },
		"the last one with a count":          func(m *api.Manifest) { m.Segs[3].Count = 1 },
		"the last one with a footer":         func(m *api.Manifest) { m.Segs[3].Foot = 1 },
		"the last one beyond all numbers":    func(m *api.Manifest) { *m = greatest(); shift(m, 1) },
		"all is zero":                        func(m *api.Manifest) { *m = api.Manifest{} },
		"numbers that would wrap round":      func(m *api.Manifest) { m.Segs[0].Count, m.Segs[1].First = math.MaxInt, 20+math.MinInt },
		"a floor that would wrap round":      func(m *api.Manifest) { m.Floor, m.SnapSeq, m.Segs[0].First = math.MaxInt, math.MaxInt, math.MinInt },
		"a book number that would wrap":      func(m *api.Manifest) { m.Next, m.Snap = math.MinInt, 1 },
		"a floor below 0":                    func(m *api.Manifest) { m.Floor, m.Segs = -1, []api.Seg{{Num: 1}} },
		"one segment more than there may be": func(m *api.Manifest) { *m = greatest(); oneMore(m) },
	} {
		m := grown()
		change(&m)
		if manifest.Valid(m) || modelValid(m) {
			t.Errorf("%s: valid", what)
		}
		agree(t, m)
	}
}

// shift moves floor and segments up by n events.
func shift(m *api.Manifest, n int) {
	m.Floor += n
	for i := range m.Segs {
		m.Segs[i].First += n
	}
}

// oneMore puts a segment of one event ahead of all.
func oneMore(m *api.Manifest) {
	m.Floor--
	m.Segs = slices.Insert(m.Segs, 0, api.Seg{Num: 1, First: m.Floor + 1, Count: 1, Foot: 1})
}

func TestP16_1HowManySegments(t *testing.T) {
	for count := range 260 {
		m := api.Manifest{Gen: 1, Next: 300}
		for i := range count {
			m.Segs = append(m.Segs, api.Seg{Num: i + 1, First: i + 1, Count: 1, Foot: 43})
		}
		if count > 0 {
			m.Segs[count-1] = api.Seg{Num: count, First: count}
		}
		if got := manifest.Valid(m); got != (count >= 1 && count <= 256) {
			t.Errorf("%d segments: %v", count, got)
		}
		agree(t, m)
	}
}

func TestP16_1TheGreatestManifest(t *testing.T) {
	m := greatest()
	agree(t, m)
	// Of each number Num has 3 bytes, First 6, Count 2, Foot 6; of the last one Count and Foot 1.
	if n := manifest.Size(m); n != 20+2+3+6+3+6+255*17+11 {
		t.Errorf("its size: %d", n)
	}
}

// Each number of a manifest, and each two of them, go to all edges.
func TestP16_1AtAllEdges(t *testing.T) {
	for _, m := range []api.Manifest{fresh(), grown()} {
		for i := range fields(&m) {
			for _, x := range edges(*fields(&m)[i]) {
				one := clone(m)
				*fields(&one)[i] = x
				agree(t, one)
				for j := range i {
					for _, y := range edges(*fields(&m)[j]) {
						two := clone(one)
						*fields(&two)[j] = y
						agree(t, two)
					}
				}
			}
		}
	}
}

func TestP16_1And2AnyValid(t *testing.T) {
	r := rand.New(rand.NewSource(1))
	for range 20000 {
		m := some(r)
		if !modelValid(m) {
			t.Fatalf("%#v", m)
		}
		agree(t, m)
		all := fields(&m)
		*all[r.Intn(len(all))] += r.Intn(5) - 2
		agree(t, m)
	}
}

// refuses asks for ErrManifest and nothing beside it.
func refuses(t *testing.T, what string, b []byte) {
	t.Helper()
	if m, bad := manifest.Decode(b); bad != api.ErrManifest || !isZero(m) {
		t.Errorf("%s: Decode(%x) = %#v, %d", what, b, m, bad)
	}
}

// body is the body of a manifest's frame as it stands.
func body(m api.Manifest) []byte {
	b := written(m)
	return b[16 : len(b)-4]
}

func TestP16_2WrongBytes(t *testing.T) {
	right := written(grown())
	for n := range right {
		refuses(t, "a beginning", right[:n])
	}
	for n := 1; n < len(right); n++ {
		refuses(t, "an end", right[n:])
	}
	for i := range right {
		for bit := range 8 {
			b := bytes.Clone(right)
			b[i] ^= 1 << bit
			refuses(t, "a turned bit", b)
		}
	}
	refuses(t, "a byte behind", append(bytes.Clone(right), 0))
	refuses(t, "twice", append(bytes.Clone(right), right...))
	for kind := api.EventFrame; kind <= api.EndFrame; kind++ {
		if kind != api.ManifestFrame {
			refuses(t, "another kind", framed(kind, 9, body(grown())))
		}
	}
	refuses(t, "Gen 0", framed(api.ManifestFrame, 0, body(grown())))
}

func TestP16_2WrongBodies(t *testing.T) {
	right := body(grown())
	wrong := func(what string, body []byte) { refuses(t, what, framed(api.ManifestFrame, 9, body)) }
	for n := range right {
		wrong("a beginning", right[:n])
	}
	wrong("a byte behind", append(bytes.Clone(right), 0))
	us, _, _ := varint.DecodeAll(right, 99)
	for n := range us {
		wrong("fewer numbers", varint.EncodeAll(us[:n]))
	}
	for n := 1; n <= 4; n++ {
		wrong("more numbers", varint.EncodeAll(append(slices.Clone(us), us[:n]...)))
	}
	wrong("the count longer than need be", append([]byte{right[0] | 0x80, 0}, right[1:]...))
	wrong("a number longer than need be", append(slices.Insert(bytes.Clone(right[:len(right)-1]), len(right)-1, 0x80), 0))
	for i, u := range us {
		for _, x := range []uint64{u + 1<<62, u + 1<<63, u + 1<<41, math.MaxUint64, 1 << 63, math.MaxInt64, -u - 1} {
			turned := slices.Clone(us)
			turned[i] = x
			wrong("a great number", varint.EncodeAll(turned))
		}
	}
	wrong("a number of more than 64 bits", append(bytes.Clone(right[:len(right)-1]), 0x80, 0x80, 0x80, 0x80, 0x80, 0x80, 0x80, 0x80, 0x80, 2))
	wrong("a count of many", binary.AppendUvarint(nil, 1<<40))
	many := greatest()
	oneMore(&many)
	refuses(t, "257 segments", written(many))
}

// Whatever a frame's body tells, Decode takes it where the model does, and what it takes it writes again.
func TestP16_2AnyNumbers(t *testing.T) {
	r := rand.New(rand.NewSource(2))
	taken := 0
	for range 40000 {
		m := some(r)
		b := written(m)
		for range r.Intn(3) {
			b = spoiled(r, m, b)
		}
		got, bad := manifest.Decode(b)
		want, wantBad := modelDecode(b)
		if !same(got, want) || bad != wantBad {
			t.Fatalf("Decode(%x) = %#v, %d, not %#v, %d", b, got, bad, want, wantBad)
		}
		if bad == api.OK {
			taken++
			if again := encoded(t, got); !bytes.Equal(again, b) {
				t.Fatalf("Decode takes %x, Encode writes %x", b, again)
			}
		}
	}
	if taken < 10000 || taken > 30000 {
		t.Errorf("%d were taken", taken)
	}
}

// spoiled is a frame with one number of its list another one, or the list longer or shorter.
func spoiled(r *rand.Rand, m api.Manifest, b []byte) []byte {
	f, _, bad := frame.Decode(b)
	us, _, bad2 := varint.DecodeAll(f.Body, 2000)
	if bad != api.OK || bad2 != api.OK || len(us) == 0 {
		return b
	}
	i := r.Intn(len(us))
	switch r.Intn(5) {
	case 0:
		us[i] += uint64(r.Intn(3)) - 1
	case 1:
		us[i] = us[r.Intn(len(us))]
	case 2:
		us = us[:i]
	case 3:
		us = append(us, us[i])
	case 4:
		us[i] = 1 << r.Intn(64)
	}
	return framed(api.ManifestFrame, m.Gen, varint.EncodeAll(us))
}

// disk is one with room, and with this manifest.
func disk(t *testing.T, m api.Manifest) *simfs.FS {
	t.Helper()
	fs := simfs.New(100000)
	saved(t, fs, m)
	return fs
}

func saved(t *testing.T, fs *simfs.FS, m api.Manifest) {
	t.Helper()
	if bad := manifest.Save(fs, m); bad != api.OK {
		t.Fatalf("Save(%#v): %d", m, bad)
	}
}

// lies asks for these files and no others, all of their bytes safe but where it is told.
func lies(t *testing.T, fs *simfs.FS, want ...api.File) {
	t.Helper()
	got := fs.Image()
	if !slices.EqualFunc(got, want, func(a, b api.File) bool {
		return a.Name == b.Name && bytes.Equal(a.Data, b.Data) && a.Safe == b.Safe
	}) {
		t.Errorf("there lie %v, not %v", got, want)
	}
}

func safe(name string, b []byte) api.File { return api.File{Name: name, Data: b, Safe: len(b)} }

func TestP16_3Save(t *testing.T) {
	fs := simfs.New(100000)
	for i, m := range []api.Manifest{fresh(), grown(), greatest(), fresh()} {
		saved(t, fs, m)
		lies(t, fs, safe("manifest", written(m)))
		if fs.Steps() != 4*(i+1) || fs.ReadBytes() != 0 {
			t.Errorf("%d steps, %d bytes read", fs.Steps(), fs.ReadBytes())
		}
	}
}

func TestP16_3TheFourSteps(t *testing.T) {
	old, new := written(fresh()), written(grown())
	half := api.File{Name: "manifest.tmp", Data: new}
	for n, left := range [][]api.File{
		{safe("manifest", old)},
		{safe("manifest", old), half},
		{safe("manifest", old), half},
		{safe("manifest", old), safe("manifest.tmp", new)},
	} {
		fs := disk(t, fresh())
		fs.Fuse(n + 1)
		if bad := manifest.Save(fs, grown()); bad != api.ErrDown {
			t.Errorf("the power failed in step %d: %d", n+1, bad)
		}
		if fs.Steps() != 4+n {
			t.Errorf("the power failed in step %d: %d steps", n+1, fs.Steps())
		}
		lies(t, fs, left...)
	}
}

func TestP16_3RefusedSteps(t *testing.T) {
	fs := disk(t, fresh())
	fs.Create(names.Temp)
	fs.Append(names.Temp, []byte{1, 2})
	if bad := manifest.Save(fs, grown()); bad != api.ErrExists {
		t.Errorf("over a stray: %d", bad)
	}
	lies(t, fs, safe("manifest", written(fresh())), api.File{Name: "manifest.tmp", Data: []byte{1, 2}})

	room := 29 + len(written(grown()))
	fs = simfs.New(room - 1)
	saved(t, fs, fresh())
	if bad := manifest.Save(fs, grown()); bad != api.ErrFull {
		t.Errorf("without room: %d", bad)
	}
	lies(t, fs, safe("manifest", written(fresh())), safe("manifest.tmp", nil))
	fs = simfs.New(room)
	saved(t, fs, fresh())
	saved(t, fs, grown())

	fs = simfs.New(100000)
	for i := range api.MaxFiles {
		fs.Create("f" + strconv.Itoa(i))
	}
	if bad := manifest.Save(fs, fresh()); bad != api.ErrFiles || len(fs.List()) != api.MaxFiles {
		t.Errorf("too many files: %d", bad)
	}
	fs.Remove("f0")
	saved(t, fs, fresh())

	fs = disk(t, fresh())
	fs.Fuse(1)
	fs.Create("x")
	if bad := manifest.Save(fs, grown()); bad != api.ErrDown {
		t.Errorf("the power is off: %d", bad)
	}
	lies(t, fs, safe("manifest", written(fresh())))
}

func TestP16_3NotValidIsFirst(t *testing.T) {
	off := disk(t, fresh())
	off.Fuse(1)
	off.Create("x")
	for what, fs := range map[string]*simfs.FS{"no disk": nil, "a disk": disk(t, fresh()), "no room": simfs.New(0), "the power is off": off, "one that New didn't make": {}} {
		steps, image := fs.Steps(), fs.Image()
		for _, m := range []api.Manifest{{}, {Gen: 1, Next: 2}} {
			if bad := manifest.Save(fs, m); bad != api.ErrManifest {
				t.Errorf("%s: %d", what, bad)
			}
		}
		if fs.Steps() != steps {
			t.Errorf("%s: %d steps", what, fs.Steps()-steps)
		}
		lies(t, fs, image...)
	}
	if bad := manifest.Save(nil, fresh()); bad != api.ErrArg {
		t.Errorf("no disk: %d", bad)
	}
	if bad := manifest.Save(new(simfs.FS), fresh()); bad != api.ErrFull {
		t.Errorf("a disk that New didn't make: %d", bad)
	}
}

func TestP16_4Load(t *testing.T) {
	for _, m := range []api.Manifest{fresh(), grown(), greatest()} {
		fs := disk(t, m)
		fs.Create(names.Temp)
		image, steps := fs.Image(), fs.Steps()
		got, there, bad := manifest.Load(fs)
		if !same(got, m) || !there || bad != api.OK {
			t.Errorf("Load = %#v, %v, %d", got, there, bad)
		}
		if fs.Steps() != steps || fs.ReadBytes() != manifest.Size(m) {
			t.Errorf("%d steps, %d bytes read", fs.Steps()-steps, fs.ReadBytes())
		}
		lies(t, fs, image...)
	}
}

func TestP16_4Nothing(t *testing.T) {
	stray := simfs.New(1000)
	stray.Create(names.Temp)
	stray.Append(names.Temp, written(fresh()))
	for what, fs := range map[string]*simfs.FS{"an empty disk": simfs.New(0), "one that New didn't make": {}, "a stray": stray} {
		m, there, bad := manifest.Load(fs)
		if !isZero(m) || there || bad != api.OK {
			t.Errorf("%s: %#v, %v, %d", what, m, there, bad)
		}
	}
}

func TestP16_4Errors(t *testing.T) {
	empty, off := simfs.New(1000), disk(t, fresh())
	for _, fs := range []*simfs.FS{empty, off} {
		fs.Fuse(1)
		fs.Create("x")
	}
	for what, x := range map[string]struct {
		fs  *simfs.FS
		bad api.Errno
	}{"no disk": {nil, api.ErrArg}, "the power is off": {off, api.ErrDown}, "the power is off, and no manifest": {empty, api.ErrDown}} {
		if m, there, bad := manifest.Load(x.fs); !isZero(m) || there || bad != x.bad {
			t.Errorf("%s: %#v, %v, %d", what, m, there, bad)
		}
	}
	right := written(grown())
	turned := bytes.Clone(right)
	turned[20] ^= 1
	invalid := grown()
	invalid.Next = 11
	for what, b := range map[string][]byte{
		"no bytes": nil, "a beginning": right[:len(right)-1], "a byte behind": append(bytes.Clone(right), 0), "a turned bit": turned,
		"not valid": written(invalid), "another kind": framed(api.BookFrame, 9, body(grown())), "zeros": make([]byte, 1000),
	} {
		fs, bad := simfs.Mount(10000, []api.File{safe("manifest", b)})
		if bad != api.OK {
			t.Fatal(bad)
		}
		if m, there, bad := manifest.Load(fs); !isZero(m) || there || bad != api.ErrManifest {
			t.Errorf("%s: %#v, %v, %d", what, m, there, bad)
		}
		lies(t, fs, safe("manifest", b))
	}
}

func TestP16_4WhatIsNotSafeCounts(t *testing.T) {
	fs, _ := simfs.Mount(1000, []api.File{{Name: "manifest", Data: written(grown()), Safe: 3}})
	if m, there, bad := manifest.Load(fs); !same(m, grown()) || !there || bad != api.OK {
		t.Errorf("%#v, %v, %d", m, there, bad)
	}
}

func TestP16_5ThePowerFails(t *testing.T) {
	old, new := fresh(), grown()
	for fuse := range 6 {
		for kept := range len(written(new)) + 2 {
			fs := disk(t, old)
			fs.Create("zz")
			fs.Fuse(fuse)
			saved := manifest.Save(fs, new)
			if (saved == api.OK) != (fuse == 0 || fuse > 4) {
				t.Fatalf("fuse %d: %d", fuse, saved)
			}
			fs.Restart([]int{kept, kept, kept})
			m, there, bad := manifest.Load(fs)
			if !there || bad != api.OK {
				t.Fatalf("fuse %d, %d kept: %v, %d", fuse, kept, there, bad)
			}
			if !same(m, new) && (saved == api.OK || !same(m, old)) {
				t.Fatalf("fuse %d, %d kept: %#v", fuse, kept, m)
			}
		}
	}
}

// The power fails again and again; whoever comes back removes the stray and saves the next one.
func TestP16_5AgainAndAgain(t *testing.T) {
	r := rand.New(rand.NewSource(3))
	for range 200 {
		fs := simfs.New(100000)
		old := some(r)
		saved(t, fs, old)
		for range 20 {
			new := some(r)
			fs.Fuse(r.Intn(6))
			answer := manifest.Save(fs, new)
			fs.Restart([]int{r.Intn(60), r.Intn(60)})
			m, there, bad := manifest.Load(fs)
			if !there || bad != api.OK || !same(m, new) && (answer == api.OK || !same(m, old)) {
				t.Fatalf("behind Save's %d: %#v, %v, %d, not %#v or %#v", answer, m, there, bad, old, new)
			}
			old = m
			fs.Remove(names.Temp)
		}
	}
}

func TestRule4ArgumentsStay(t *testing.T) {
	roomy := append(grown().Segs, api.Seg{Num: 77}, api.Seg{Num: 78})
	m := grown()
	m.Segs = roomy[:4]
	kept := slices.Clone(roomy)
	fs := simfs.New(1000)
	manifest.Valid(m)
	manifest.Encode(m)
	manifest.Size(m)
	saved(t, fs, m)
	if !slices.Equal(roomy, kept) {
		t.Errorf("the segments are %v", roomy)
	}
	room := append(written(grown()), 1, 2, 3)
	b := room[:len(room)-3]
	before := bytes.Clone(room)
	got, bad := manifest.Decode(b)
	if bad != api.OK || !bytes.Equal(room, before) {
		t.Errorf("the bytes are %x", room)
	}
	clear(room)
	clear(roomy)
	if !same(got, grown()) {
		t.Errorf("what was read is kept: %#v", got)
	}
	if again, _, bad := manifest.Load(fs); bad != api.OK || !same(again, grown()) {
		t.Errorf("what was saved is kept: %#v", again)
	}
}

func TestRule4AnswersAreNewMemory(t *testing.T) {
	m, fs := grown(), disk(t, grown())
	for range 2 {
		b := encoded(t, m)
		clear(b[:cap(b)])
		read, _ := manifest.Decode(written(m))
		clear(read.Segs[:cap(read.Segs)])
		loaded, _, _ := manifest.Load(fs)
		if !same(loaded, m) {
			t.Errorf("Load = %#v", loaded)
		}
		clear(loaded.Segs[:cap(loaded.Segs)])
	}
	if !same(m, grown()) || !bytes.Equal(encoded(t, m), written(grown())) {
		t.Error("an answer was changed, and something else with it")
	}
}

func TestRule6DisksNeverMeet(t *testing.T) {
	a, b := disk(t, fresh()), disk(t, grown())
	if m, _, _ := manifest.Load(a); !same(m, fresh()) {
		t.Errorf("%#v", m)
	}
	if m, _, _ := manifest.Load(b); !same(m, grown()) {
		t.Errorf("%#v", m)
	}
}
