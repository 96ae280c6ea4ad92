package recovery_test

import (
	"bytes"
	"fmt"
	"maps"
	"math/rand"
	"reflect"
	"slices"
	"testing"

	"daybook/api"
	"daybook/manifest"
	"daybook/recovery"
	"daybook/simfs"
)

// planned asks for a plan that goes well and changes nothing.
func planned(t *testing.T, what string, fs *simfs.FS) api.Plan {
	t.Helper()
	p, bad := untouched(t, what, fs)
	if bad != api.OK {
		t.Fatalf("%s: Plan answers %d", what, bad)
	}
	return p
}

// untouched is what Plan answers; it holds it to changing nothing, to reading little, and to no plan beside an error.
func untouched(t *testing.T, what string, fs *simfs.FS) (api.Plan, api.Errno) {
	t.Helper()
	image, steps, read := fs.Image(), fs.Steps(), fs.ReadBytes()
	p, bad := recovery.Plan(fs)
	if fs.Steps() != steps || !reflect.DeepEqual(fs.Image(), image) {
		t.Errorf("%s: Plan has changed the disk", what)
	}
	if got := fs.ReadBytes() - read; got > 2*fs.Used() {
		t.Errorf("%s: Plan has read %d bytes where %d lie", what, got, fs.Used())
	}
	if bad != api.OK && !samePlan(p, api.Plan{}) {
		t.Errorf("%s: beside %d stands %v", what, bad, p)
	}
	return p, bad
}

// refuses asks for an error of Plan and of Run, and for a disk that stays as it is.
func refuses(t *testing.T, what string, fs *simfs.FS, want api.Errno) {
	t.Helper()
	if _, bad := untouched(t, what, fs); bad != want {
		t.Errorf("%s: Plan answers %d, not %d", what, bad, want)
	}
	image, steps := fs.Image(), fs.Steps()
	if p, bad := recovery.Run(fs); bad != want || !samePlan(p, api.Plan{}) {
		t.Errorf("%s: Run answers %v, %d, not %d", what, p, bad, want)
	}
	if fs.Steps() != steps || !reflect.DeepEqual(fs.Image(), image) {
		t.Errorf("%s: Run has changed the disk", what)
	}
}

// lies asks for these files and no others, all of their bytes safe.
func lies(t *testing.T, what string, fs *simfs.FS, files map[string][]byte) {
	t.Helper()
	for _, x := range fs.Image() {
		b, there := files[x.Name]
		if !there || !bytes.Equal(b, x.Data) || x.Safe != len(b) {
			t.Errorf("%s: %s holds %x, %d bytes safe, not %x", what, x.Name, x.Data, x.Safe, b)
		}
	}
	if len(fs.Image()) != len(files) {
		t.Errorf("%s: there lie %v", what, fs.List())
	}
}

// off is a disk whose power has failed.
func off(fs *simfs.FS) *simfs.FS {
	fs.Fuse(1)
	fs.Create("x")
	return fs
}

func TestP18_1First(t *testing.T) {
	m := recovery.First()
	if !sameManifest(m, fresh()) || !manifest.Valid(m) || manifest.Size(m) != 29 {
		t.Errorf("First() = %v", m)
	}
	m.Segs[0].Num = 9
	if m := recovery.First(); !sameManifest(m, fresh()) {
		t.Errorf("what First answers is not new: %v", m)
	}
}

func TestP18_2AnEmptyDisk(t *testing.T) {
	for room := range 60 {
		fs := simfs.New(room)
		if room < 51 {
			refuses(t, fmt.Sprint("room for ", room), fs, api.ErrFull)
			continue
		}
		want := api.Plan{Fresh: true, Manifest: fresh(), Cut: 22}
		if p := planned(t, fmt.Sprint("room for ", room), fs); !samePlan(p, want) {
			t.Errorf("room for %d: %v", room, p)
		}
		if fs.ReadBytes() != 0 {
			t.Errorf("%d bytes read of an empty disk", fs.ReadBytes())
		}
	}
	refuses(t, "a disk that New didn't make", new(simfs.FS), api.ErrFull)
}

func TestP18_2LoadsErrors(t *testing.T) {
	for what, fs := range map[string]*simfs.FS{"an empty disk": simfs.New(100), "too little room": simfs.New(3), "a store": grown().disk(t), "a turned manifest": mounted(t, 100, map[string][]byte{"manifest": {1}})} {
		refuses(t, what, off(fs), api.ErrDown)
	}
	refuses(t, "no disk", nil, api.ErrArg)
}

func TestP18_2NoManifest(t *testing.T) {
	right := written(grown().m)
	invalid := framed(api.ManifestFrame, 1, []byte{8, 1, 0, 0, 0, 1, 1, 0, 0}) // Next 1
	wrong := map[string][]byte{"no bytes": {}, "zeros": make([]byte, 40), "a byte behind": append(bytes.Clone(right), 0), "twice": append(bytes.Clone(right), right...), "not valid": invalid, "another kind": framed(api.BookFrame, 8, right[16:len(right)-4])}
	for n := range right {
		wrong[fmt.Sprint("the first ", n)] = right[:n]
	}
	for bit := range 8 * len(right) {
		wrong[fmt.Sprint("turned bit ", bit)] = turned(right, bit)
	}
	for what, b := range wrong {
		files := grown().all()
		files["manifest"] = b
		files["manifest.tmp"] = right
		files["seg-000001"] = header(1, 1)
		refuses(t, what, mounted(t, 1<<20, files), api.ErrCorrupt)
	}
}

// aliens is names that are nearly the store's.
func aliens() []string {
	return []string{"manifest.", "manifest.tm", "manifest.tmp.", "manifest-tmp", "seg-000000", "seg-00001", "seg-0000010", "seg-00000a", "seg000001", "book-000000", "book-1", "books", "seg-", "x"}
}

func TestP18_2StraysMakeRoom(t *testing.T) {
	files := map[string][]byte{}
	for _, name := range aliens() {
		files[name] = make([]byte, 3)
	}
	ours := []string{"book-000001", "book-000077", "book-999999", "manifest.tmp", "seg-000001", "seg-000010", "seg-999999"}
	for i, name := range ours {
		files[name] = make([]byte, 10*i)
	}
	for _, free := range []int{0, 1, 1000} {
		fs := mounted(t, 3*len(aliens())+210+free, files)
		if p := planned(t, "strays", fs); !samePlan(p, api.Plan{Fresh: true, Manifest: fresh(), Remove: ours, Cut: 22}) {
			t.Errorf("the plan is %v", p)
		}
	}
	// The strays' bytes count as free ones, the aliens' don't.
	for alien := range 12 {
		for stray := range 12 {
			files := map[string][]byte{"x": make([]byte, alien), "book-000002": make([]byte, stray), "seg-000002": {}}
			fs := mounted(t, 56, files)
			if alien > 5 {
				refuses(t, fmt.Sprint(alien, stray), fs, api.ErrFull)
			} else if p := planned(t, fmt.Sprint(alien, stray), fs); !p.Fresh || !slices.Equal(p.Remove, []string{"book-000002", "seg-000002"}) {
				t.Errorf("%d bytes alien, %d stray: %v", alien, stray, p)
			}
		}
	}
}

func TestP18_2HowManyFiles(t *testing.T) {
	for count := 690; count <= api.MaxFiles; count++ {
		for mine := range min(4, api.MaxFiles-count+1) {
			files := map[string][]byte{}
			for i := range count {
				files[fmt.Sprint("f", i)] = nil
			}
			for i := range mine {
				files[fmt.Sprintf("seg-%06d", i+1)] = nil
			}
			fs, what := mounted(t, 51, files), fmt.Sprint(count, " aliens, strays: ", mine)
			if count > 698 {
				refuses(t, what, fs, api.ErrFull)
				continue
			}
			if p := planned(t, what, fs); !p.Fresh || len(p.Remove) != mine {
				t.Errorf("%s: %v", what, p)
			}
			if p, bad := recovery.Run(fs); bad != api.OK || !p.Fresh || len(fs.List()) != count+2 {
				t.Errorf("%s: Run answers %v, %d", what, p, bad)
			}
		}
	}
}

func TestP18_2And4FreshExample(t *testing.T) {
	fs := simfs.New(51)
	p, bad := recovery.Run(fs)
	if bad != api.OK || !samePlan(p, api.Plan{Fresh: true, Manifest: fresh(), Cut: 22}) {
		t.Errorf("Run = %v, %d", p, bad)
	}
	lies(t, "room for 51", fs, map[string][]byte{"manifest": written(fresh()), "seg-000001": header(1, 1)})
	if fs.Steps() != 7 || fs.Free() != 0 {
		t.Errorf("%d steps, %d bytes free", fs.Steps(), fs.Free())
	}
	refuses(t, "room for 50", simfs.New(50), api.ErrFull)
}

func TestP18_3Example(t *testing.T) {
	b := append(header(1, 1), events(1, 2)...)
	torn := append(bytes.Clone(b), events(3, 1)[:5]...)
	fs := mounted(t, 1000, map[string][]byte{"manifest": written(fresh()), "seg-000001": torn})
	want := api.Plan{Manifest: fresh(), Cut: 64, Last: 2}
	if p := planned(t, "the example", fs); !samePlan(p, want) {
		t.Errorf("the plan is %v", p)
	}
	if p, bad := recovery.Run(fs); bad != api.OK || !samePlan(p, want) {
		t.Errorf("Run = %v, %d", p, bad)
	}
	lies(t, "the example", fs, map[string][]byte{"manifest": written(fresh()), "seg-000001": b})
}

func TestP18_3AGrownStore(t *testing.T) {
	s := grown()
	want := api.Plan{Manifest: s.m, Cut: 22 + 3*21, Last: 31}
	if p := planned(t, "as it is", s.disk(t)); !samePlan(p, want) {
		t.Errorf("the plan is %v", p)
	}
	for _, name := range aliens() {
		s.files[name] = []byte("?")
	}
	strays := []string{"book-000001", "book-000005", "book-000009", "manifest.tmp", "seg-000001", "seg-000003", "seg-000006", "seg-000012", "seg-999999"}
	for _, name := range strays {
		s.files[name] = []byte("whatever stands there")
	}
	want.Remove = strays
	if p := planned(t, "with strays", s.disk(t)); !samePlan(p, want) {
		t.Errorf("the plan is %v", p)
	}
}

// A manifest's book and one of its segments may have one number: the names differ.
func TestP18_3TheBookHasASegmentsNumber(t *testing.T) {
	s := grown()
	s.m.Snap = 5
	s.files = maps.Clone(s.files)
	s.files["book-000005"] = bookOf(5, 26, states(4))
	if p := planned(t, "the same number", s.disk(t)); !slices.Equal(p.Remove, []string{"book-000003"}) {
		t.Errorf("the plan is %v", p)
	}
}

func TestP18_3TheBook(t *testing.T) {
	right := grown().files["book-000003"]
	for what, b := range map[string][]byte{
		"no bytes":               {},
		"a byte behind":          append(bytes.Clone(right), 0),
		"torn":                   right[:len(right)-1],
		"one of another number":  bookOf(4, 26, states(4, 7)),
		"of an earlier event":    bookOf(3, 25, states(4, 7)),
		"of a later event":       bookOf(3, 27, states(4, 7)),
		"a segment":              grown().files["seg-000005"],
		"states that don't rise": slices.Concat(framed(api.BookFrame, 3, []byte{26}), framed(api.StateFrame, 7, []byte{2, 7, 16, 1, 18, 1}), framed(api.StateFrame, 7, []byte{2, 7, 16, 1, 18, 1}), framed(api.EndFrame, 3, []byte{2})),
	} {
		s := grown()
		s.files["book-000003"] = b
		refuses(t, "the book: "+what, s.disk(t), api.ErrCorrupt)
	}
	for bit := range 8 * len(right) {
		s := grown()
		s.files["book-000003"] = turned(right, bit)
		refuses(t, fmt.Sprint("the book: turned bit ", bit), s.disk(t), api.ErrCorrupt)
	}
	s := grown()
	delete(s.files, "book-000003")
	refuses(t, "no book", s.disk(t), api.ErrCorrupt)
	s.files["book-000004"] = bookOf(3, 26, states(4, 7))
	refuses(t, "the book under another name", s.disk(t), api.ErrCorrupt)

	s = stocked(0, 2, 2, 4, 3)
	planned(t, "a book above no floor", s.disk(t))
	delete(s.files, "book-000003")
	refuses(t, "no book, and no floor", s.disk(t), api.ErrCorrupt)

	s = grown()
	s.files["book-000003"] = bookOf(3, 26, nil)
	planned(t, "a book without states", s.disk(t))
	s = stocked(0, 0, 2, 4, 3)
	s.files["book-000003"] = []byte("no book")
	if p := planned(t, "where the manifest names none", s.disk(t)); !slices.Equal(p.Remove, []string{"book-000003"}) {
		t.Errorf("the plan is %v", p)
	}
}

// The events of the sealed segments aren't looked at; every other byte of theirs is.
func TestP18_3SealedSegmentsTurned(t *testing.T) {
	for i, g := range grown().m.Segs[:3] {
		name := grown().name(i)
		right := grown().files[name]
		for bit := range 8 * len(right) {
			s := grown()
			s.files[name] = turned(right, bit)
			what := fmt.Sprint(name, " turned at ", bit)
			if bit/8 < 22 || bit/8 >= g.Foot {
				refuses(t, what, s.disk(t), api.ErrCorrupt)
			} else if p := planned(t, what, s.disk(t)); p.Last != 31 || p.Cut != 22+3*21 {
				t.Errorf("%s: %v", what, p)
			}
		}
		for n := range right {
			s := grown()
			s.files[name] = right[:n]
			refuses(t, fmt.Sprint(name, " cut at ", n), s.disk(t), api.ErrCorrupt)
		}
		s := grown()
		delete(s.files, name)
		refuses(t, "without "+name, s.disk(t), api.ErrCorrupt)
	}
}

func TestP18_3SealedSegments(t *testing.T) {
	// The first segment of the grown store: number 5, events 21 to 24, by stride 2.
	head, body, marks := header(5, 21), events(21, 4), every(22, 21, 4, 2)
	foot := footer(5, 21, 4, 2, marks...)
	if !bytes.Equal(slices.Concat(head, body, foot), grown().files["seg-000005"]) {
		t.Fatal("the segment is another one")
	}
	for what, b := range map[string][]byte{
		"the header of another number":  slices.Concat(header(6, 21), body, foot),
		"the header of another first":   slices.Concat(header(5, 22), body, foot),
		"an event for a header":         slices.Concat(framed(api.EventFrame, 5, []byte{5, 21}), body, foot),
		"a header that tells more":      slices.Concat(framed(api.HeaderFrame, 5, []byte{5, 21, 0}), body, foot),
		"no header":                     slices.Concat(make([]byte, 22), body, foot),
		"a byte behind the footer":      slices.Concat(head, body, foot, []byte{0}),
		"two footers":                   slices.Concat(head, body, foot, foot),
		"no footer":                     slices.Concat(head, body),
		"an event for a footer":         slices.Concat(head, body, events(25, 1)),
		"a byte ahead of the footer":    slices.Concat(head, body, []byte{0}, foot),
		"an event more":                 slices.Concat(head, body, events(25, 1), foot),
		"an event less":                 slices.Concat(head, events(21, 3), foot),
		"a footer of another number":    slices.Concat(head, body, footer(7, 21, 4, 2, marks...)),
		"a footer of another first":     slices.Concat(head, body, footer(5, 20, 4, 2, every(22, 20, 4, 2)...)),
		"a footer of another count":     slices.Concat(head, body, footer(5, 21, 3, 2, marks...)),
		"a footer of another stride":    slices.Concat(head, body, footer(5, 21, 4, 3, marks...)),
		"a footer of no stride":         slices.Concat(head, body, footer(5, 21, 4, 0, marks...)),
		"a footer of too wide a stride": slices.Concat(head, body, footer(5, 21, 4, 65, marks[:1]...)),
		"a footer without marks":        slices.Concat(head, body, footer(5, 21, 4, 2)),
		"a footer with a mark less":     slices.Concat(head, body, footer(5, 21, 4, 2, marks[:1]...)),
		"a mark of another event":       slices.Concat(head, body, footer(5, 21, 4, 2, marks[0], api.Mark{Seq: 24, At: 64})),
		"a mark at the footer":          slices.Concat(head, body, footer(5, 21, 4, 2, marks[0], api.Mark{Seq: 23, At: 106})),
		"the first mark too early":      slices.Concat(head, body, footer(5, 21, 4, 2, api.Mark{Seq: 21, At: 21}, marks[1])),
		"the first mark too late":       slices.Concat(head, body, footer(5, 21, 4, 2, api.Mark{Seq: 21, At: 23}, marks[1])),
		"the first mark at the header":  slices.Concat(head, body, footer(5, 21, 4, 2, api.Mark{Seq: 21, At: 0}, marks[1])),
	} {
		s := grown()
		s.files["seg-000005"] = b
		refuses(t, what, s.disk(t), api.ErrCorrupt)
	}
	for what, b := range map[string][]byte{
		"no events at all":          slices.Concat(head, make([]byte, 84), foot),
		"every event marked":        slices.Concat(head, body, footer(5, 21, 4, 1, every(22, 21, 4, 1)...)),
		"the widest stride":         slices.Concat(head, body, footer(5, 21, 4, 64, marks[0])),
		"the second mark elsewhere": slices.Concat(head, body, footer(5, 21, 4, 2, marks[0], api.Mark{Seq: 23, At: 105})),
	} {
		s := grown()
		s.files["seg-000005"] = b
		if p := planned(t, what, s.disk(t)); p.Last != 31 {
			t.Errorf("%s: %v", what, p)
		}
	}
}

// The manifest is held against the files: each of its numbers that is another valid one is found out.
func TestP18_3AnotherManifest(t *testing.T) {
	for what, change := range map[string]func(m *api.Manifest){
		"another footer's place":       func(m *api.Manifest) { m.Segs[0].Foot++ },
		"an earlier one":               func(m *api.Manifest) { m.Segs[2].Foot-- },
		"a footer at the header":       func(m *api.Manifest) { m.Segs[0].Foot = 22 },
		"a footer within the header":   func(m *api.Manifest) { m.Segs[0].Foot = 1 },
		"the farthest one":             func(m *api.Manifest) { m.Segs[0].Foot = api.MaxSeq },
		"other counts":                 func(m *api.Manifest) { m.Segs[0].Count, m.Segs[1].First, m.Segs[1].Count = 3, 24, 2 },
		"another number":               func(m *api.Manifest) { m.Segs[0].Num = 4 },
		"another number of the active": func(m *api.Manifest) { m.Segs[3].Num, m.Next = 12, 13 },
		"without the last one":         func(m *api.Manifest) { m.Segs = m.Segs[:3]; m.Segs[2].Count, m.Segs[2].Foot = 0, 0; m.SnapSeq = 26 + 7 },
		"another book":                 func(m *api.Manifest) { m.Snap = 4 },
		"a book of the event ahead":    func(m *api.Manifest) { m.SnapSeq = 25 },
		"a book of the event behind":   func(m *api.Manifest) { m.SnapSeq = 27 },
		"a lower floor":                func(m *api.Manifest) { m.Floor--; shift(m, -1) },
	} {
		s := grown()
		change(&s.m)
		refuses(t, what, s.disk(t), api.ErrCorrupt)
	}
	s := grown()
	s.m.Gen, s.m.Next = api.MaxSeq, api.MaxNum+1
	planned(t, "another Gen and Next", s.disk(t))
	s = grown()
	s.m.Floor, s.m.Segs = 24, s.m.Segs[1:]
	if p := planned(t, "a higher floor", s.disk(t)); !slices.Equal(p.Remove, []string{"seg-000005"}) || p.Last != 31 {
		t.Errorf("a higher floor: %v", p)
	}
}

// shift moves the segments by n events.
func shift(m *api.Manifest, n int) {
	for i := range m.Segs {
		m.Segs[i].First += n
	}
}

// The active segment ends ahead of the first frame that is torn or turned.
func TestP18_3TheActiveSegmentTurned(t *testing.T) {
	right := grown().files["seg-000011"]
	for bit := range 8 * len(right) {
		s, what := grown(), fmt.Sprint("the active segment turned at ", bit)
		s.files["seg-000011"] = turned(right, bit)
		if bit/8 < 22 {
			refuses(t, what, s.disk(t), api.ErrCorrupt)
			continue
		}
		whole := (bit/8 - 22) / 21
		if p := planned(t, what, s.disk(t)); p.Cut != 22+21*whole || p.Last != 28+whole {
			t.Errorf("%s: %v", what, p)
		}
	}
	for n := range right {
		s, what := grown(), fmt.Sprint("the active segment cut at ", n)
		s.files["seg-000011"] = right[:n]
		if n < 22 {
			refuses(t, what, s.disk(t), api.ErrCorrupt)
			continue
		}
		whole := (n - 22) / 21
		if p := planned(t, what, s.disk(t)); p.Cut != 22+21*whole || p.Last != 28+whole {
			t.Errorf("%s: %v", what, p)
		}
	}
	s := grown()
	delete(s.files, "seg-000011")
	refuses(t, "no active segment", s.disk(t), api.ErrCorrupt)
	for what, b := range map[string][]byte{
		"another number":     slices.Concat(header(10, 29), events(29, 3)),
		"another first":      slices.Concat(header(11, 30), events(29, 3)),
		"an earlier first":   slices.Concat(header(11, 28), events(28, 3)),
		"an event ahead":     slices.Concat(events(29, 3), header(11, 29)),
		"a byte ahead":       slices.Concat([]byte{0}, header(11, 29), events(29, 3)),
		"the number's alone": framed(api.HeaderFrame, 11, []byte{11}),
	} {
		s := grown()
		s.files["seg-000011"] = b
		refuses(t, "the active segment: "+what, s.disk(t), api.ErrCorrupt)
	}
}

func TestP18_3TheActiveSegmentsEvents(t *testing.T) {
	head := header(11, 29)
	for _, x := range []struct {
		what  string
		b     []byte
		count int
	}{
		{"none", head, 0},
		{"one", slices.Concat(head, events(29, 1)), 1},
		{"zeros behind", slices.Concat(head, events(29, 2), make([]byte, 500)), 2},
		{"a gap", slices.Concat(head, events(29, 2), events(32, 2)), 2},
		{"one twice", slices.Concat(head, events(29, 2), events(30, 2)), 2},
		{"others alone", slices.Concat(head, events(30, 2)), 0},
		{"those of a former segment", slices.Concat(head, events(25, 9)), 0},
		{"a header behind", slices.Concat(head, events(29, 2), head, events(31, 2)), 2},
		{"a footer behind", slices.Concat(head, events(29, 3), footer(11, 29, 3, 2, every(22, 29, 3, 2)...)), 3},
		{"a torn one between", slices.Concat(head, events(29, 1), events(30, 1)[:20], events(31, 3)), 1},
		{"511", slices.Concat(head, events(29, 511)), 511},
		{"512", slices.Concat(head, events(29, 512)), 512},
		{"513", slices.Concat(head, events(29, 513)), 512},
		{"600", slices.Concat(head, events(29, 600)), 512},
	} {
		s := grown()
		s.files["seg-000011"] = x.b
		fs := s.disk(t)
		want := api.Plan{Manifest: s.m, Cut: 22 + 21*x.count, Last: 28 + x.count}
		if p := planned(t, x.what, fs); !samePlan(p, want) {
			t.Errorf("%s: the plan is %v", x.what, p)
		}
		if p, bad := recovery.Run(fs); bad != api.OK || !samePlan(p, want) {
			t.Errorf("%s: Run = %v, %d", x.what, p, bad)
		}
		s.files["seg-000011"] = x.b[:22+21*x.count]
		lies(t, x.what, fs, s.all())
	}
}

// The book must not be ahead of the last event.
func TestP18_3TheBookAndTheLastEvent(t *testing.T) {
	for snap := 26; snap <= 36; snap++ {
		for count := range 6 {
			s := grown()
			s.m.SnapSeq = snap
			s.files["book-000003"] = bookOf(3, snap, states(4))
			s.files["seg-000011"] = slices.Concat(header(11, 29), events(29, count), []byte{1, 2})
			what := fmt.Sprintf("the book of %d, and %d events behind 28", snap, count)
			if 28+count < snap {
				refuses(t, what, s.disk(t), api.ErrCorrupt)
			} else if p := planned(t, what, s.disk(t)); p.Last != 28+count {
				t.Errorf("%s: %v", what, p)
			}
		}
	}
}

// Numbers at their greatest: the header of a segment has 29 bytes then.
func TestP18_3TheGreatestNumbers(t *testing.T) {
	for _, x := range []struct{ first, stands, last int }{
		{api.MaxSeq - 1, 2, api.MaxSeq}, {api.MaxSeq - 1, 1, api.MaxSeq - 1}, {api.MaxSeq, 1, api.MaxSeq}, {api.MaxSeq, 0, api.MaxSeq - 1}, {api.MaxSeq + 1, 0, api.MaxSeq},
	} {
		before, foot := x.first-3, 29+3*21
		m := api.Manifest{Gen: api.MaxSeq, Next: api.MaxNum + 1, Floor: before - 1, Snap: 5, SnapSeq: x.first - 1, Segs: []api.Seg{{Num: 999998, First: before, Count: 3, Foot: foot}, {Num: 999999, First: x.first}}}
		head := header(999999, x.first)
		s := shop{m, map[string][]byte{
			"book-000005": bookOf(5, x.first-1, states(1)),
			"seg-999998":  slices.Concat(header(999998, before), events(before, 3), footer(999998, before, 3, 64, api.Mark{Seq: before, At: 29})),
			"seg-999999":  slices.Concat(head, events(x.first, x.stands), []byte{0xa5}),
		}}
		if p := planned(t, "the greatest numbers", s.disk(t)); !samePlan(p, api.Plan{Manifest: m, Cut: len(head) + 21*x.stands, Last: x.last}) {
			t.Errorf("the active segment from %d on: %v", x.first, p)
		}
	}
}

func TestP18_3TheMostSegments(t *testing.T) {
	counts := slices.Repeat([]int{1}, 256)
	s := stocked(0, 0, 1, counts...)
	if p := planned(t, "256 segments", s.disk(t)); !samePlan(p, api.Plan{Manifest: s.m, Cut: 24 + 21, Last: 256}) {
		t.Errorf("the plan is %v", p)
	}
	for _, i := range []int{0, 1, 100, 254, 255} {
		s := stocked(0, 0, 1, counts...)
		delete(s.files, s.name(i))
		refuses(t, fmt.Sprint("without segment ", i), s.disk(t), api.ErrCorrupt)
	}
}

// What is not safe counts as what is: the opening comes behind the loss of power.
func TestP18_3WhatIsNotSafeCounts(t *testing.T) {
	s := grown()
	var list []api.File
	for name, b := range s.all() {
		list = append(list, api.File{Name: name, Data: b})
	}
	fs, _ := simfs.Mount(100000, list)
	if p := planned(t, "nothing is safe", fs); !samePlan(p, api.Plan{Manifest: s.m, Cut: 85, Last: 31}) {
		t.Errorf("the plan is %v", p)
	}
	if p, bad := recovery.Run(fs); bad != api.OK || p.Last != 31 {
		t.Errorf("Run = %v, %d", p, bad)
	}
	for _, x := range fs.Image() {
		if active := x.Name == "seg-000011"; active && x.Safe != 85 || !active && x.Safe != 0 {
			t.Errorf("%s: %d bytes are safe", x.Name, x.Safe)
		}
	}
}

// spoil changes the files of a store in one way.
func spoil(r *rand.Rand, s *shop) {
	name := slices.Sorted(maps.Keys(s.files))[r.Intn(len(s.files))]
	b := bytes.Clone(s.files[name])
	at := r.Intn(len(b) + 1)
	switch r.Intn(9) {
	case 0:
		b = b[:at]
	case 1:
		if len(b) > 0 {
			b = turned(b, r.Intn(8*len(b)))
		}
	case 2:
		b = append(b, events(r.Intn(40), 1+r.Intn(3))...)
	case 3:
		b = slices.Insert(b, at, byte(r.Intn(256)))
	case 4:
		delete(s.files, name)
		return
	case 5:
		s.files[fmt.Sprintf("seg-%06d", 1+r.Intn(16))] = b
		return
	case 6:
		s.files[fmt.Sprintf("book-%06d", 1+r.Intn(9))] = b
		return
	case 7:
		i := r.Intn(len(s.m.Segs))
		s.m.Segs[i].Foot += r.Intn(3) - 1
	case 8:
		s.m.SnapSeq += r.Intn(3) - 1
	}
	s.files[name] = b
}

// Any stores, whole and spoilt, are held against the model; what goes well is carried out and found again.
func TestP18_3And7AnyStore(t *testing.T) {
	r := rand.New(rand.NewSource(1))
	well := 0
	for range 20000 {
		s := someShop(r)
		for range r.Intn(3) {
			if len(s.files) > 0 {
				spoil(r, &s)
			}
		}
		if !manifest.Valid(s.m) {
			continue
		}
		files := s.all()
		if r.Intn(8) == 0 {
			delete(files, "manifest")
		}
		if r.Intn(8) == 0 {
			files["manifest.tmp"] = []byte("torn")
		}
		fs := mounted(t, 1<<16, files)
		want, wantBad := modelPlan(1<<16, files)
		p, bad := untouched(t, "any store", fs)
		if bad != wantBad || !samePlan(p, want) {
			t.Fatalf("the plan of %v is %v, %d, not %v, %d", s, p, bad, want, wantBad)
		}
		if bad == api.OK {
			well++
			again(t, fs, p)
		}
	}
	if well < 5000 || well > 19000 {
		t.Errorf("%d went well", well)
	}
}

// again runs a recovery and holds the next one to finding the same.
func again(t *testing.T, fs *simfs.FS, want api.Plan) {
	t.Helper()
	if p, bad := recovery.Run(fs); bad != api.OK || !samePlan(p, want) {
		t.Fatalf("Run = %v, %d, not %v", p, bad, want)
	}
	settled(t, fs, want)
}

// settled holds a disk to one on which a recovery has found a plan and carried it out.
func settled(t *testing.T, fs *simfs.FS, want api.Plan) {
	t.Helper()
	image := fs.Image()
	want.Fresh, want.Remove = false, nil
	for range 2 {
		if p, bad := recovery.Run(fs); bad != api.OK || !samePlan(p, want) {
			t.Fatalf("another Run = %v, %d, not %v", p, bad, want)
		}
	}
	if !reflect.DeepEqual(fs.Image(), image) {
		t.Fatal("another Run has changed the disk")
	}
}

// Most bytes lie in what Plan looks at; it reads none of them three times.
func TestP18_6HowMuchIsRead(t *testing.T) {
	for what, s := range map[string]shop{
		"grown": grown(), "the active segment alone": stocked(0, 0, 1, 500), "empty segments": stocked(0, 0, 1, 1, 1, 1, 1, 1, 1, 0), "a full one": stocked(0, 0, 1, 512, 1), "many": stocked(0, 0, 1, slices.Repeat([]int{1}, 256)...),
	} {
		fs := s.disk(t)
		planned(t, what, fs)
		if fs.ReadBytes() == 0 || fs.ReadBytes() > 2*fs.Used() {
			t.Errorf("%s: %d bytes read, %d lie there", what, fs.ReadBytes(), fs.Used())
		}
	}
	// What reaches from within the header to the end is read beside the header.
	for foot := 1; foot < 200; foot++ {
		s := stocked(0, 0, 2, 4, 0)
		s.m.Segs[0].Foot = foot
		untouched(t, fmt.Sprint("a footer at ", foot), s.disk(t))
	}
	big := make([]byte, 1<<16)
	for _, name := range []string{"manifest", "book-000003", "seg-000005", "seg-000011", "seg-000012", "manifest.tmp", "x"} {
		files := grown().all()
		files[name] = slices.Concat(files[name], big)
		untouched(t, "many bytes behind "+name, mounted(t, 1<<20, files))
	}
}

// The events of sealed segments aren't read: what an opening reads doesn't grow with them.
func TestP18_6SealedEventsAreNotRead(t *testing.T) {
	s := stocked(0, 0, 64, 512, 512, 512, 0)
	fs := s.disk(t)
	planned(t, "three full segments", fs)
	if fs.ReadBytes() > 1000 {
		t.Errorf("%d bytes read", fs.ReadBytes())
	}
}
