package audit_test

import (
	"bytes"
	"fmt"
	"maps"
	"math"
	"math/rand"
	"reflect"
	"slices"
	"testing"

	"daybook/api"
	"daybook/audit"
	"daybook/fault"
	"daybook/frame"
	"daybook/simfs"
	"daybook/store"
)

func TestP22_1Examples(t *testing.T) {
	fs := simfs.New(100)
	if _, bad := store.Open(fs, api.Config{Stride: 1, SegEvents: 1}); bad != api.OK {
		t.Fatal(bad)
	}
	looks(t, "a new store", fs.Image())
	files := fs.Image()
	files[1].Data[21] ^= 1
	looks(t, "the last byte of the header turned", files, f("seg-000001", 0, api.ErrHeader))
	looks(t, "no files", nil)
	looks(t, "an empty list", []api.File{})
	looks(t, "a grown store", grown().all())
}

func TestP22_1TheManifest(t *testing.T) {
	right := written(grown().m)
	no := f("manifest", 0, api.ErrManifest)
	for bit := range 8 * len(right) {
		looks(t, fmt.Sprint("turned at ", bit), []api.File{{Name: "manifest", Data: turned(right, bit)}}, no)
	}
	for n := range right {
		looks(t, fmt.Sprint("cut at ", n), []api.File{{Name: "manifest", Data: right[:n]}}, no)
	}
	for what, b := range map[string][]byte{
		"a byte behind":  append(bytes.Clone(right), 0),
		"two of them":    slices.Concat(right, right),
		"another frame":  header(1, 1),
		"not valid":      framed(api.ManifestFrame, 1, numbers(8, 2, 0, 0, 0, 1, 2, 0, 0)),
		"no segments":    framed(api.ManifestFrame, 1, numbers(4, 2, 0, 0, 0)),
		"of Gen 0":       framed(api.ManifestFrame, 0, numbers(8, 2, 0, 0, 0, 1, 1, 0, 0)),
		"its own header": framed(api.HeaderFrame, 1, numbers(8, 2, 0, 0, 0, 1, 1, 0, 0)),
	} {
		looks(t, what, []api.File{{Name: "manifest", Data: b}}, no)
		// Without a valid manifest there are neither strays nor files that are missing, nor segments that are or aren't full.
		files := append(grown().with("manifest.tmp").with("seg-000099", header(99, 1)).with("book-000098", bookOf(98, 1)).all()[1:], api.File{Name: "manifest", Data: b})
		looks(t, what+", in a store", files, no)
	}
}

func TestP22_1NoManifest(t *testing.T) {
	no := f("manifest", 0, api.ErrNoFile)
	for _, x := range []struct {
		what  string
		files []api.File
		want  []api.Finding
	}{
		{"a segment alone", []api.File{{Name: "seg-000001", Data: header(1, 1)}}, []api.Finding{no}},
		{"a book alone", []api.File{{Name: "book-999999", Data: bookOf(999999, 5)}}, []api.Finding{no}},
		{"both", []api.File{{Name: "seg-000001", Data: header(1, 1)}, {Name: "book-000001", Data: bookOf(1, 5)}}, []api.Finding{no}},
		{"an empty segment", []api.File{{Name: "seg-000001"}}, []api.Finding{no, f("seg-000001", 0, api.ErrHeader)}},
		{"an empty book", []api.File{{Name: "book-000001"}}, []api.Finding{f("book-000001", 0, api.ErrBook), no}},
		{"a manifest that was not renamed", []api.File{{Name: "manifest.tmp", Data: written(grown().m)}}, nil},
		{"aliens", []api.File{{Name: "x"}, {Name: "seg-000000"}, {Name: "seg-1"}, {Name: "book-0000001"}, {Name: "Manifest"}, {Name: ""}}, nil},
		{"a whole store without it", grown().all()[1:], []api.Finding{no}},
		{"that, and the one that was not renamed", append(grown().all()[1:], api.File{Name: "manifest.tmp"}), []api.Finding{no}},
	} {
		looks(t, x.what, x.files, x.want...)
	}
}

func TestP22_1WhatIsMissing(t *testing.T) {
	for _, name := range []string{"book-000003", "seg-000005", "seg-000007", "seg-000009"} {
		looks(t, "without "+name, grown().without(name).all(), f(name, 0, api.ErrNoFile))
	}
	looks(t, "the manifest alone", grown().all()[:1],
		f("book-000003", 0, api.ErrNoFile), f("seg-000005", 0, api.ErrNoFile), f("seg-000007", 0, api.ErrNoFile), f("seg-000009", 0, api.ErrNoFile))
	looks(t, "no book is named", stocked(0, 0, 1, 2, 1).all())
	looks(t, "no book is named, and a segment is missing", stocked(0, 0, 1, 2, 1).without("seg-000005").all(), f("seg-000005", 0, api.ErrNoFile))
	// A book that isn't there, and the number of which a segment has.
	s := stocked(0, 1, 1, 2, 1).without("book-000003")
	s.m.Snap = 5
	looks(t, "a book of a segment's number", s.all(), f("book-000005", 0, api.ErrNoFile))
}

func TestP22_1Strays(t *testing.T) {
	for _, x := range []struct {
		name string
		b    []byte
		want []api.Finding
	}{
		{"manifest.tmp", nil, []api.Finding{f("manifest.tmp", 0, api.ErrExists)}},
		{"manifest.tmp", written(grown().m), []api.Finding{f("manifest.tmp", 0, api.ErrExists)}},
		{"seg-000001", header(1, 1), []api.Finding{f("seg-000001", 0, api.ErrExists)}},
		{"seg-000003", header(3, 31), []api.Finding{f("seg-000003", 0, api.ErrExists)}},
		{"seg-000006", slices.Concat(header(6, 31), events(31, 2)), []api.Finding{f("seg-000006", 0, api.ErrExists)}},
		{"seg-000012", sealed(slices.Concat(header(12, 31), events(31, 2)), 1), []api.Finding{f("seg-000012", 0, api.ErrExists)}},
		{"seg-999999", nil, []api.Finding{f("seg-999999", 0, api.ErrExists), f("seg-999999", 0, api.ErrHeader)}},
		{"seg-000012", append(header(12, 31), 1), []api.Finding{f("seg-000012", 0, api.ErrExists), f("seg-000012", 22, api.ErrTorn)}},
		{"book-000001", bookOf(1, 2, 3), []api.Finding{f("book-000001", 0, api.ErrExists)}},
		{"book-000005", bookOf(5, 26), []api.Finding{f("book-000005", 0, api.ErrExists)}},
		{"book-000004", nil, []api.Finding{f("book-000004", 0, api.ErrExists), f("book-000004", 0, api.ErrBook)}},
		{"manifest.tmp2", nil, nil},
		{"seg-000000", nil, nil},
		{"seg-5", nil, nil},
		{"seg-0000005", nil, nil},
		{"book-00003", nil, nil},
		{"book-000000", nil, nil},
		{"alien", []byte{1}, nil},
		{"", nil, nil},
	} {
		looks(t, "a stray "+x.name, grown().with(x.name, x.b).all(), x.want...)
	}
	s := stocked(0, 0, 1, 1).with("book-000003", bookOf(3, 1))
	looks(t, "where no book is named", s.all(), f("book-000003", 0, api.ErrExists))
}

func TestP22_1Books(t *testing.T) {
	right := grown().files["book-000003"]
	no := f("book-000003", 0, api.ErrBook)
	for bit := range 8 * len(right) {
		looks(t, fmt.Sprint("turned at ", bit), grown().with("book-000003", turned(right, bit)).all(), no)
	}
	for n := range right {
		looks(t, fmt.Sprint("cut at ", n), grown().with("book-000003", right[:n]).all(), no)
	}
	for what, b := range map[string][]byte{
		"a byte behind":     append(bytes.Clone(right), 0),
		"twice":             slices.Concat(right, right),
		"of another number": bookOf(4, 26, 4, 7),
		"a manifest":        written(grown().m),
		"a segment":         header(3, 1),
	} {
		looks(t, what, grown().with("book-000003", b).all(), no)
	}
	// Nobody asks here whether it goes as far as the manifest says.
	looks(t, "up to another event", grown().with("book-000003", bookOf(3, 25, 4)).all())
	looks(t, "without states", grown().with("book-000003", bookOf(3, 26)).all())
}

func TestP22_1Headers(t *testing.T) {
	for _, name := range []string{"seg-000005", "seg-000009"} {
		right := grown().files[name]
		for bit := range 8 * 22 {
			looks(t, fmt.Sprint(name, " turned at ", bit), grown().with(name, turned(right, bit)).all(), f(name, 0, api.ErrHeader))
		}
		for n := range 22 {
			looks(t, fmt.Sprint(name, " cut at ", n), grown().with(name, right[:n]).all(), f(name, 0, api.ErrHeader))
		}
	}
	// Nothing else is told of a segment without its header.
	for what, b := range map[string][]byte{
		"another number":          slices.Concat(header(8, 28), events(28, 3)),
		"another number, sealed":  sealed(slices.Concat(header(8, 28), events(28, 3)), 1),
		"another number, torn":    slices.Concat(header(8, 28), events(28, 3), []byte{1}),
		"another number, no body": slices.Concat(header(8, 28), framed(api.EventFrame, 28, nil)),
		"none":                    events(28, 3),
		"a book":                  bookOf(9, 26),
	} {
		looks(t, what, grown().with("seg-000009", b).all(), f("seg-000009", 0, api.ErrHeader))
	}
	// Nor does anybody ask whether it begins where the manifest says.
	looks(t, "another first", grown().with("seg-000009", header(9, 77), events(77, 2)).all())
}

// Events that are whole frames, and yet no events, are each told with their own error.
func TestP22_1Events(t *testing.T) {
	wrong := func(seq int, body ...byte) []byte { return framed(api.EventFrame, seq, body) }
	b := slices.Concat(header(9, 28), wrong(28), events(29, 1), wrong(30, 0x80, 0), wrong(31, 6, 2, 1), wrong(32, 5, 2, 1, 4, 0), wrong(33, 5, 2, 1),
		wrong(34, 5, 2, 11, 4, 7), wrong(35, 5, 4, 7, 2, 1), wrong(36, 4, 2, 1, 4, 7, 16, 1), wrong(37, 1, 2, 1, 4, 7, 12, 1), wrong(38, 0x80), events(39, 1), wrong(40, 5, 2, 1, 4))
	want := []api.Finding{
		f("seg-000009", 22, api.ErrShort), f("seg-000009", 67, api.ErrLong), f("seg-000009", 89, api.ErrVersion), f("seg-000009", 112, api.ErrZero), f("seg-000009", 137, api.ErrField),
		f("seg-000009", 160, api.ErrKind), f("seg-000009", 185, api.ErrOrder), f("seg-000009", 210, api.ErrForm), f("seg-000009", 237, api.ErrTag), f("seg-000009", 264, api.ErrShort), f("seg-000009", 310, api.ErrShort),
	}
	looks(t, "of the active segment", grown().with("seg-000009", b).all(), want...)
	looks(t, "and torn", grown().with("seg-000009", b, []byte{1}).all(), append(slices.Clone(want), f("seg-000009", 334, api.ErrTorn))...)
	full := sealed(b, 3)
	looks(t, "of a segment that is sealed too soon", grown().with("seg-000009", full).all(), append(slices.Clone(want), f("seg-000009", len(full), api.ErrFull))...)
	for i := range want {
		want[i].Name = "seg-000012"
	}
	b = append(header(12, 28), b[22:]...)
	looks(t, "of a stray", grown().with("seg-000012", b).all(), append([]api.Finding{f("seg-000012", 0, api.ErrExists)}, want...)...)
	// Those of a sealed segment too: its footer fits any bodies.
	odd := sealed(slices.Concat(header(7, 25), events(25, 1), wrong(26, 7), events(27, 1)), 2)
	looks(t, "of a sealed segment", grown().with("seg-000007", odd).all(), f("seg-000007", 47, api.ErrVersion))
	// What is right in its own version is right.
	old := slices.Concat(header(9, 28), wrong(28, 1, 2, 2, 4, 7, 6, 3, 8, 3, 10, 5), wrong(29, 3, 2, 4, 4, 7))
	looks(t, "of old versions", grown().with("seg-000009", old).all())
}

// What stands behind the good bytes of a segment that isn't sealed.
func TestP22_1BehindTheGoodBytes(t *testing.T) {
	right := grown().files["seg-000009"] // 97 bytes: the events 28 to 30 at 22, 47 and 72
	foot := sealed(right, 2)[97:]
	marks := []api.Mark{{Seq: 28, At: 22}, {Seq: 30, At: 72}}
	for _, x := range []struct {
		what string
		b    []byte
		code api.Errno
	}{
		{"a byte", []byte{0xa5}, api.ErrTorn},
		{"15 noughts", make([]byte, 15), api.ErrTorn},
		{"16 noughts", make([]byte, 16), api.ErrMark},
		{"many noughts", make([]byte, 5000), api.ErrMark},
		{"a torn event", events(31, 1)[:24], api.ErrTorn},
		{"a head alone", events(31, 1)[:16], api.ErrTorn},
		{"an event whose head is turned", turned(events(31, 1), 8*5), api.ErrSum},
		{"an event whose body is turned", turned(events(31, 1), 8*20), api.ErrSum},
		{"the event ahead again", events(30, 1), api.ErrMissing},
		{"an event too far", events(32, 1), api.ErrMissing},
		{"its header again", header(9, 28), api.ErrMissing},
		{"a manifest", written(grown().m), api.ErrMissing},
		{"a book", bookOf(3, 26), api.ErrMissing},
		{"a torn footer", foot[:len(foot)-1], api.ErrTorn},
		{"a footer that is turned", turned(foot, 8*18), api.ErrSum},
		{"a footer of another number", footer(8, 28, 3, 2, marks...), api.ErrIndex},
		{"a footer of another first", footer(9, 27, 3, 2, marks...), api.ErrIndex},
		{"a footer of more events", footer(9, 28, 4, 2, marks...), api.ErrIndex},
		{"a footer of another stride", footer(9, 28, 3, 3, marks...), api.ErrIndex},
		{"a footer with other marks", footer(9, 28, 3, 2, api.Mark{Seq: 28, At: 22}, api.Mark{Seq: 30, At: 71}), api.ErrIndex},
		{"a footer without a mark", footer(9, 28, 3, 2, marks[0]), api.ErrIndex},
		{"a footer of nothing", framed(api.FooterFrame, 9, nil), api.ErrIndex},
		{"that, and its own footer", slices.Concat(framed(api.FooterFrame, 9, nil), foot), api.ErrIndex},
	} {
		looks(t, x.what, grown().with("seg-000009", right, x.b).all(), f("seg-000009", 97, x.code))
		looks(t, x.what+", without a manifest", []api.File{{Name: "seg-000009", Data: slices.Concat(right, x.b)}}, f("manifest", 0, api.ErrNoFile), f("seg-000009", 97, x.code))
	}
	frameOutOfBounds := framed(api.EventFrame, 31, nil)
	frameOutOfBounds[1] = 8
	looks(t, "a kind out of its bounds", grown().with("seg-000009", right, resummed(frameOutOfBounds)).all(), f("seg-000009", 97, api.ErrRange))
	looks(t, "a footer where there is no event", grown().with("seg-000009", header(9, 28), footer(9, 28, 0, 1)).all(), f("seg-000009", 22, api.ErrIndex))
	most := slices.Concat(header(9, 28), events(28, 512))
	looks(t, "the most events", grown().with("seg-000009", most).all())
	looks(t, "one more", grown().with("seg-000009", most, events(540, 1)).all(), f("seg-000009", 22+512*25, api.ErrMissing))
	looks(t, "one more, torn", grown().with("seg-000009", most, events(540, 1)[:3]).all(), f("seg-000009", 22+512*25, api.ErrTorn))
}

// resummed is a frame whose head has its right sum again.
func resummed(b []byte) []byte {
	right := framed(api.EventFrame, 1, b[:12])
	return slices.Concat(b[:12], right[len(right)-4:], b[16:])
}

func TestP22_1SealedOrNot(t *testing.T) {
	sealed5, sealed7, active := grown().files["seg-000005"], grown().files["seg-000007"], grown().files["seg-000009"]
	n5, n7 := len(sealed5), len(sealed7)
	for _, x := range []struct {
		what, name string
		b          []byte
		want       []api.Finding
	}{
		{"a byte behind the footer", "seg-000005", slices.Concat(sealed5, []byte{0}), []api.Finding{f("seg-000005", n5, api.ErrSealed)}},
		{"the footer twice", "seg-000007", slices.Concat(sealed7, sealed7[97:]), []api.Finding{f("seg-000007", n7, api.ErrSealed)}},
		{"an event behind the footer", "seg-000007", slices.Concat(sealed7, events(28, 1)), []api.Finding{f("seg-000007", n7, api.ErrSealed)}},
		{"no footer", "seg-000005", sealed5[:122], []api.Finding{f("seg-000005", 122, api.ErrFull)}},
		{"half a footer", "seg-000005", sealed5[:130], []api.Finding{f("seg-000005", 122, api.ErrFull), f("seg-000005", 122, api.ErrTorn)}},
		{"another footer", "seg-000005", slices.Concat(sealed5[:122], footer(5, 21, 4, 2)), []api.Finding{f("seg-000005", 122, api.ErrFull), f("seg-000005", 122, api.ErrIndex)}},
		{"no events", "seg-000005", sealed5[:22], []api.Finding{f("seg-000005", 22, api.ErrFull)}},
		{"an event turned", "seg-000005", turned(sealed5, 8*60), []api.Finding{f("seg-000005", 47, api.ErrFull), f("seg-000005", 47, api.ErrSum)}},
		{"an event turned in its mark", "seg-000005", turned(sealed5, 8*47), []api.Finding{f("seg-000005", 47, api.ErrFull), f("seg-000005", 47, api.ErrMark)}},
		{"an event too few, its footer right", "seg-000005", sealed(sealed5[:97], 1), nil},
		{"another stride", "seg-000005", sealed(sealed5[:122], 64), nil},
		{"sealed too soon", "seg-000009", sealed(active, 1), []api.Finding{f("seg-000009", len(sealed(active, 1)), api.ErrFull)}},
		{"sealed too soon, and a byte", "seg-000009", append(sealed(active, 1), 1), []api.Finding{f("seg-000009", len(sealed(active, 1)), api.ErrFull), f("seg-000009", len(sealed(active, 1)), api.ErrSealed)}},
		{"an active one without events", "seg-000009", active[:22], nil},
		{"an active one that is shorter", "seg-000009", active[:47], nil},
		{"a torn active one", "seg-000009", active[:48], []api.Finding{f("seg-000009", 47, api.ErrTorn)}},
	} {
		looks(t, x.what, grown().with(x.name, x.b).all(), x.want...)
		// Where no manifest speaks of it, nobody knows whether it should be sealed.
		bare := slices.DeleteFunc(slices.Clone(x.want), func(g api.Finding) bool { return g.Code == api.ErrFull })
		looks(t, x.what+", without a manifest", []api.File{{Name: x.name, Data: x.b}}, append([]api.Finding{f("manifest", 0, api.ErrNoFile)}, bare...)...)
	}
}

// The findings stand by name, place and number, whatever the order of the files.
func TestP22_1Sorted(t *testing.T) {
	s := grown().without("seg-000007").with("manifest.tmp").with("seg-000100").with("seg-000020", header(20, 1), []byte{0}).with("book-000003").with("book-000010").with("zzz")
	s.with("seg-000009", header(9, 28), framed(api.EventFrame, 28, []byte{0}), framed(api.EventFrame, 29, nil), header(9, 28))
	s.with("seg-000005", grown().files["seg-000005"][:130])
	want := []api.Finding{
		f("book-000003", 0, api.ErrBook), f("book-000010", 0, api.ErrExists), f("book-000010", 0, api.ErrBook), f("manifest.tmp", 0, api.ErrExists),
		f("seg-000005", 122, api.ErrFull), f("seg-000005", 122, api.ErrTorn), f("seg-000007", 0, api.ErrNoFile),
		f("seg-000009", 22, api.ErrVersion), f("seg-000009", 43, api.ErrShort), f("seg-000009", 63, api.ErrMissing),
		f("seg-000020", 0, api.ErrExists), f("seg-000020", 22, api.ErrTorn), f("seg-000100", 0, api.ErrExists), f("seg-000100", 0, api.ErrHeader),
	}
	r := rand.New(rand.NewSource(1))
	for range 50 {
		files := s.all()
		r.Shuffle(len(files), func(i, j int) { files[i], files[j] = files[j], files[i] })
		looks(t, "much is wrong", files, want...)
	}
}

func TestP22_1TheFirstOfAName(t *testing.T) {
	for _, name := range []string{"manifest", "book-000003", "seg-000005", "seg-000009"} {
		code := api.ErrHeader
		switch name[0] {
		case 'm':
			code = api.ErrManifest
		case 'b':
			code = api.ErrBook
		}
		bad := api.File{Name: name, Data: []byte("none")}
		looks(t, name+" again behind", append(grown().all(), bad, bad))
		looks(t, name+" again ahead", append([]api.File{bad}, grown().all()...), f(name, 0, code))
		empty := api.File{Name: name}
		looks(t, name+" again, empty, behind", append(grown().all(), empty))
		looks(t, name+" again, empty, ahead", append([]api.File{empty}, grown().all()...), f(name, 0, code))
	}
	looks(t, "a stray twice", append(grown().all(), api.File{Name: "seg-000100", Data: header(100, 1)}, api.File{Name: "seg-000100"}), f("seg-000100", 0, api.ErrExists))
}

func TestP22_1WhatIsSafeDoesNotCount(t *testing.T) {
	for _, safe := range []int{math.MinInt, -1, 0, 1, 30, 97, 1 << 40, math.MaxInt} {
		files := grown().all()
		for i := range files {
			files[i].Safe = safe
		}
		looks(t, fmt.Sprint(safe, " bytes are safe"), files)
		looks(t, fmt.Sprint(safe, " bytes of a stray are safe"), append(files, api.File{Name: "manifest.tmp", Safe: safe}), f("manifest.tmp", 0, api.ErrExists))
	}
}

// The greatest numbers that a store can have.
func TestP22_1TheGreatestNumbers(t *testing.T) {
	first := api.MaxSeq
	m := api.Manifest{Gen: api.MaxSeq, Next: api.MaxNum + 1, Floor: first - 1, Snap: 999999, SnapSeq: first, Segs: []api.Seg{{Num: 999997, First: first, Count: 1, Foot: api.MaxSeq}, {Num: 999998, First: first + 1}}}
	s := shop{m, map[string][]byte{"book-999999": bookOf(999999, first), "seg-999997": sealed(append(header(999997, first), events(first, 1)...), 64), "seg-999998": header(999998, first+1)}}
	looks(t, "the greatest numbers", s.all())
	looks(t, "and nothing behind them", s.with("seg-999998", header(999998, first+1), framed(api.EventFrame, first, body(1))).all(), f("seg-999998", 29, api.ErrMissing))
	counts := slices.Repeat([]int{1}, 256)
	many := stocked(0, 0, 1, counts...)
	looks(t, "the most segments", many.all())
	var want []api.Finding
	for _, name := range slices.Sorted(maps.Keys(many.files)) {
		want = append(want, f(name, 0, api.ErrNoFile))
	}
	looks(t, "all of them missing", many.all()[:1], want...)
}

// spoil changes the files of a store in one way.
func spoil(r *rand.Rand, s shop) {
	if len(s.files) == 0 {
		return
	}
	name := slices.Sorted(maps.Keys(s.files))[r.Intn(len(s.files))]
	b := bytes.Clone(s.files[name])
	at := r.Intn(len(b) + 1)
	switch r.Intn(9) {
	case 0:
		b = b[:at]
	case 1:
		if len(b) > 0 {
			b = turned(b, r.Intn(8*len(b)))
		}
	case 2:
		b = append(b, events(r.Intn(40), 1+r.Intn(3))...)
	case 3:
		b = slices.Insert(b, at, byte(r.Intn(256)))
	case 4:
		delete(s.files, name)
		return
	case 5:
		name = fmt.Sprintf("seg-%06d", r.Intn(16))
	case 6:
		name = fmt.Sprintf("book-%06d", r.Intn(9))
	case 7:
		b = forged(r, b)
	case 8:
		name = []string{"manifest.tmp", "alien", "seg-12", "book"}[r.Intn(4)]
	}
	s.files[name] = b
}

// forged is a file with another body in one of its frames, under right sums.
func forged(r *rand.Rand, b []byte) []byte {
	for at := 0; at < len(b); {
		f, size, bad := frame.Decode(b[at:])
		if bad != api.OK {
			break
		}
		if len(f.Body) > 0 && r.Intn(3) == 0 {
			f.Body[r.Intn(len(f.Body))] ^= 1 << r.Intn(8)
			return slices.Concat(b[:at], framed(f.Kind, f.Seq, f.Body), b[at+size:])
		}
		at += size
	}
	return b
}

// Any stores, whole and spoilt, are held against the model.
func TestP22_1And2AnyStore(t *testing.T) {
	r := rand.New(rand.NewSource(22))
	codes := map[api.Errno]int{}
	for range 20000 {
		s := someShop(r)
		for range r.Intn(5) {
			spoil(r, s)
		}
		files := s.all()
		switch r.Intn(12) {
		case 0:
			files = files[1:]
		case 1:
			files[0].Data = turned(files[0].Data, r.Intn(8*len(files[0].Data)))
		case 2:
			files = append(files, files[r.Intn(len(files))], api.File{Name: files[r.Intn(len(files))].Name})
		}
		r.Shuffle(len(files), func(i, j int) { files[i], files[j] = files[j], files[i] })
		got, want := audit.Look(files), modelLook(files)
		if !slices.Equal(got, want) {
			t.Fatalf("of %v: %v, not %v", files, got, want)
		}
		there := slices.ContainsFunc(files, func(f api.File) bool { return f.Name == "manifest" })
		if audit.Sound(files) != (there && len(want) == 0) {
			t.Fatalf("of %v: Sound is %v", files, audit.Sound(files))
		}
		codes[api.OK]++
		for _, x := range got {
			codes[x.Code]++
		}
	}
	for _, code := range []api.Errno{api.ErrManifest, api.ErrNoFile, api.ErrExists, api.ErrBook, api.ErrHeader, api.ErrSealed, api.ErrTorn, api.ErrMark, api.ErrSum, api.ErrIndex, api.ErrMissing, api.ErrFull, api.ErrVersion, api.ErrField} {
		if codes[code] < 10 {
			t.Errorf("%s was found %d times", fault.Name(code), codes[code])
		}
	}
}

func TestP22_2Sound(t *testing.T) {
	for what, x := range map[string]struct {
		files []api.File
		sound bool
	}{
		"no files":             {nil, false},
		"an empty list":        {[]api.File{}, false},
		"aliens":               {[]api.File{{Name: "x"}}, false},
		"no manifest yet":      {[]api.File{{Name: "manifest.tmp", Data: written(grown().m)}}, false},
		"a store":              {grown().all(), true},
		"a store and an alien": {grown().with("x", []byte{1}).all(), true},
		"a store and a stray":  {grown().with("manifest.tmp").all(), false},
		"without its manifest": {grown().all()[1:], false},
		"an empty manifest":    {append([]api.File{{Name: "manifest"}}, grown().all()...), false},
		"a torn segment":       {grown().with("seg-000009", header(9, 28), []byte{1}).all(), false},
	} {
		if got := audit.Sound(x.files); got != x.sound {
			t.Errorf("%s: %v", what, got)
		}
	}
}

func TestP22_3Words(t *testing.T) {
	for _, x := range []struct {
		f    api.Finding
		want string
	}{
		{f("seg-000001", 43, api.ErrSum), "seg-000001 at 43: sum"},
		{f("seg-000001", -4, api.ErrSum), "seg-000001 at -4: sum"},
		{f("manifest", 0, api.ErrNoFile), "manifest at 0: no file"},
		{f("seg-000002", 122, api.ErrFull), "seg-000002 at 122: disk full"},
		{f("", 0, api.OK), " at 0: ok"},
		{f("a b\x00\n", math.MaxInt, api.ErrOut), "a b\x00\n at 9223372036854775807: output"},
		{f("x", math.MinInt, 5), "x at -9223372036854775808: "},
		{f("x", 1, -1), "x at 1: "},
		{f("x", 7, math.MaxInt), "x at 7: "},
		{api.Finding{}, " at 0: ok"},
	} {
		if got := audit.Words(x.f); got != x.want {
			t.Errorf("Words(%v) = %q, not %q", x.f, got, x.want)
		}
	}
	for code := api.Errno(-3); code < 130; code++ {
		if got := audit.Words(f("n", 9, code)); got != "n at 9: "+fault.Name(code) {
			t.Errorf("of %d: %q", code, got)
		}
	}
}

func TestRule4Memory(t *testing.T) {
	s := grown().with("manifest.tmp", []byte{1}).with("seg-000009", grown().files["seg-000009"], []byte{0})
	files := s.all()
	for i := range files { // with room behind each list
		files[i].Data = append(slices.Clip(bytes.Clone(files[i].Data)), 7, 7, 7)[:len(files[i].Data)]
	}
	files = append(files, api.File{Name: "behind"})[:len(files)]
	image := func() []api.File {
		all := slices.Clone(files[:len(files)+1])
		for i := range all {
			all[i].Data = bytes.Clone(all[i].Data[:cap(all[i].Data)])
		}
		return all
	}
	before := image()
	got := audit.Look(files)
	audit.Sound(files)
	if !reflect.DeepEqual(image(), before) {
		t.Error("an argument was changed")
	}
	want := slices.Clone(got)
	for i := range files {
		clear(files[i].Data)
		files[i].Name = "x"
	}
	if !slices.Equal(got, want) {
		t.Error("an argument was kept in an answer")
	}
	files = before[:len(files)]
	for i := range files {
		files[i].Data = files[i].Data[:len(files[i].Data)-3]
	}
	clear(got[:cap(got)])
	if again := audit.Look(files); !slices.Equal(again, modelLook(files)) {
		t.Errorf("an answer was changed, and the next one is %v", again)
	}
}

// Whatever bytes stand in whatever files, the calls end.
func TestRule1WhateverIsGiven(t *testing.T) {
	r := rand.New(rand.NewSource(9))
	names := []string{"manifest", "manifest.tmp", "seg-000001", "seg-000002", "book-000001", "book-000002", "x", "", "seg-", "book-999999", "\xff"}
	for range 3000 {
		var files []api.File
		for range r.Intn(8) {
			b := make([]byte, r.Intn(60))
			r.Read(b)
			if r.Intn(2) == 0 {
				b = framed(1+r.Intn(7), r.Intn(3), b)
			}
			files = append(files, api.File{Name: names[r.Intn(len(names))], Data: b, Safe: r.Intn(99) - 9})
		}
		if got := audit.Look(files); !slices.Equal(got, modelLook(files)) {
			t.Fatalf("Look(%v) = %v", files, got)
		}
		audit.Sound(files)
	}
	looks(t, "many bytes", grown().with("seg-000009", make([]byte, 1<<20)).with("book-000003", make([]byte, 1<<20)).all(), f("book-000003", 0, api.ErrBook), f("seg-000009", 0, api.ErrHeader))
}
