package simfs_test

import (
	"math"
	"math/rand"
	"reflect"
	"slices"
	"strings"
	"testing"

	"daybook/api"
	"daybook/simfs"
)

// plain is the disk by the letter of the chapter: a list of files in the order in which they came, each with its bytes in a text.
type plain struct {
	room  int
	files []plainFile
	fuse  int
	down  bool
	steps int
	read  int
}

type plainFile struct {
	name string
	data string
	safe int
}

func plainRight(name string) bool {
	wrong := func(c byte) bool { return strings.IndexByte("abcdefghijklmnopqrstuvwxyz0123456789-.", c) < 0 }
	return len(name) >= 1 && len(name) <= 24 && !slices.ContainsFunc([]byte(name), wrong)
}

func (p *plain) at(name string) int {
	return slices.IndexFunc(p.files, func(f plainFile) bool { return f.name == name })
}

// first is the errors of P10.3.
func (p *plain) first(create bool, names ...string) api.Errno {
	if p.down {
		return api.ErrDown
	}
	for _, name := range names {
		if !plainRight(name) {
			return api.ErrName
		}
	}
	if !create && p.at(names[0]) < 0 {
		return api.ErrNoFile
	}
	return api.OK
}

// done counts a step, and tells whether it is carried out.
func (p *plain) done() bool {
	if p.fuse > 0 {
		p.fuse--
		if p.fuse == 0 {
			p.down = true
			return false
		}
	}
	p.steps++
	return true
}

func (p *plain) answer(carried bool) api.Errno {
	if carried {
		return api.OK
	}
	return api.ErrDown
}

func (p *plain) create(name string) api.Errno {
	if bad := p.first(true, name); bad != api.OK {
		return bad
	}
	if p.at(name) >= 0 {
		return api.ErrExists
	}
	if len(p.files) >= 700 {
		return api.ErrFiles
	}
	carried := p.done()
	if carried {
		p.files = append(p.files, plainFile{name: name})
	}
	return p.answer(carried)
}

func (p *plain) append(name string, b []byte) api.Errno {
	if bad := p.first(false, name); bad != api.OK {
		return bad
	}
	if len(b) > p.free() {
		return api.ErrFull
	}
	p.files[p.at(name)].data += string(b)
	return p.answer(p.done())
}

func (p *plain) sync(name string) api.Errno {
	if bad := p.first(false, name); bad != api.OK {
		return bad
	}
	carried := p.done()
	if f := &p.files[p.at(name)]; carried {
		f.safe = len(f.data)
	}
	return p.answer(carried)
}

func (p *plain) rename(from, to string) api.Errno {
	if bad := p.first(false, from, to); bad != api.OK {
		return bad
	}
	carried := p.done()
	if carried && from != to {
		if i := p.at(to); i >= 0 {
			p.files = slices.Delete(p.files, i, i+1)
		}
		p.files[p.at(from)].name = to
	}
	return p.answer(carried)
}

func (p *plain) remove(name string) api.Errno {
	if bad := p.first(false, name); bad != api.OK {
		return bad
	}
	carried := p.done()
	if i := p.at(name); carried {
		p.files = slices.Delete(p.files, i, i+1)
	}
	return p.answer(carried)
}

func (p *plain) cut(name string, n int) api.Errno {
	if bad := p.first(false, name); bad != api.OK {
		return bad
	}
	if n < 0 || n > len(p.files[p.at(name)].data) {
		return api.ErrArg
	}
	carried := p.done()
	if f := &p.files[p.at(name)]; carried {
		f.data = f.data[:n]
		f.safe = min(f.safe, n)
	}
	return p.answer(carried)
}

func (p *plain) readAt(name string, at, n int) (string, api.Errno) {
	if bad := p.first(false, name); bad != api.OK {
		return "", bad
	}
	f := p.files[p.at(name)]
	if at < 0 || n < 0 || at > len(f.data) || len(f.data)-at < n {
		return "", api.ErrArg
	}
	p.read += n
	return f.data[at : at+n], api.OK
}

func (p *plain) size(name string) (int, api.Errno) {
	if bad := p.first(false, name); bad != api.OK {
		return 0, bad
	}
	return len(p.files[p.at(name)].data), api.OK
}

func (p *plain) used() int {
	n := 0
	for _, f := range p.files {
		n += len(f.data)
	}
	return n
}

func (p *plain) free() int { return p.room - p.used() }

func (p *plain) byName() []plainFile {
	return slices.SortedFunc(slices.Values(p.files), func(a, b plainFile) int { return strings.Compare(a.name, b.name) })
}

func (p *plain) list() []string {
	names := []string{}
	for _, f := range p.byName() {
		if !p.down {
			names = append(names, f.name)
		}
	}
	return names
}

func (p *plain) restart(keep []int) {
	p.files = p.byName()
	for i := range p.files {
		f := &p.files[i]
		behind := f.data[f.safe:]
		if i >= len(keep) || keep[i] < 0 {
			behind = ""
		} else if keep[i] < len(behind) {
			behind = behind[:keep[i]]
		}
		f.data = f.data[:f.safe] + behind
		f.safe = len(f.data)
	}
	p.down, p.fuse = false, 0
}

// alike holds all that a disk shows against the plain one.
func alike(t *testing.T, f *simfs.FS, p *plain) {
	t.Helper()
	if f.Used() != p.used() || f.Free() != p.free() || f.Steps() != p.steps || f.ReadBytes() != p.read || f.Down() != p.down {
		t.Fatalf("Used %d, Free %d, Steps %d, ReadBytes %d, Down %t; not %d, %d, %d, %d, %t",
			f.Used(), f.Free(), f.Steps(), f.ReadBytes(), f.Down(), p.used(), p.free(), p.steps, p.read, p.down)
	}
	if got, want := f.List(), p.list(); !slices.Equal(got, want) {
		t.Fatalf("List = %q, not %q", got, want)
	}
	image, want := f.Image(), p.byName()
	if len(image) != len(want) {
		t.Fatalf("%d files, not %d", len(image), len(want))
	}
	for i, x := range image {
		if x.Name != want[i].name || string(x.Data) != want[i].data || x.Safe != want[i].safe {
			t.Fatalf("the file %d is %#v, not %#v", i, x, want[i])
		}
	}
}

// pick is mostly one of the first, which are right and few, at times one of the others.
func pick(r *rand.Rand) string {
	few := []string{"a", "b", "c", "seg-000001", "manifest", "manifest.tmp"}
	odd := []string{"", "A", "a/b", "ab ", "a_b", "abcdefghijklmnopqrstuvwxy", "nowhere", "é", "a\x00"}
	if r.Intn(12) == 0 {
		return odd[r.Intn(len(odd))]
	}
	return few[r.Intn(len(few))]
}

// near is mostly a number from 0 to about most, at times one far off.
func near(r *rand.Rand, most int) int {
	far := []int{-1, -7, math.MinInt, math.MaxInt, math.MaxInt - 1, 1 << 40}
	if r.Intn(10) == 0 {
		return far[r.Intn(len(far))]
	}
	return r.Intn(most + 2)
}

func nears(r *rand.Rand, n, most int) []int {
	var ns []int
	for range n {
		ns = append(ns, near(r, most))
	}
	return ns
}

func filled(r *rand.Rand, n int) []byte {
	b := make([]byte, n)
	r.Read(b)
	return b
}

// both does one thing to both disks and holds the answers against each other.
func both(t *testing.T, r *rand.Rand, f *simfs.FS, p *plain) {
	t.Helper()
	name, to, b := pick(r), pick(r), filled(r, r.Intn(9))
	size, _ := p.size(name)
	at, n := near(r, size), near(r, size)
	switch r.Intn(13) {
	case 0, 1:
		agree(t, "Create", f.Create(name), p.create(name))
	case 2, 3, 4:
		agree(t, "Append", f.Append(name, b), p.append(name, b))
	case 5:
		agree(t, "Sync", f.Sync(name), p.sync(name))
	case 6:
		agree(t, "Rename", f.Rename(name, to), p.rename(name, to))
	case 7:
		agree(t, "Remove", f.Remove(name), p.remove(name))
	case 8:
		agree(t, "Cut", f.Cut(name, n), p.cut(name, n))
	case 9:
		got, bad := f.Read(name, at, n)
		want, e := p.readAt(name, at, n)
		agree(t, "Read", bad, e)
		if string(got) != want {
			t.Fatalf("Read(%q, %d, %d) = %x, not %x", name, at, n, got, want)
		}
	case 10:
		got, bad := f.Size(name)
		want, e := p.size(name)
		agree(t, "Size", bad, e)
		if got != want {
			t.Fatalf("Size(%q) = %d, not %d", name, got, want)
		}
	case 11:
		n = near(r, 6)
		f.Fuse(n)
		p.fuse = max(n, 0)
	case 12:
		if !p.down && r.Intn(3) > 0 {
			return
		}
		keep := nears(r, r.Intn(8), 8)
		f.Restart(keep)
		p.restart(keep)
	}
}

func agree(t *testing.T, what string, got, want api.Errno) {
	t.Helper()
	if got != want {
		t.Fatalf("%s answers %d, not %d", what, got, want)
	}
}

// TestP10AnyCallsAnswerAsThePlainDisk goes through P10.3 to P10.7 together.
func TestP10AnyCallsAnswerAsThePlainDisk(t *testing.T) {
	for seed := range 300 {
		r := rand.New(rand.NewSource(int64(seed)))
		room := r.Intn(80)
		f, p := simfs.New(room), &plain{room: room}
		for range 250 {
			both(t, r, f, p)
			alike(t, f, p)
		}
	}
}

// TestP10AMountedDiskGoesOnAlike lays an image, and goes on with it.
func TestP10AMountedDiskGoesOnAlike(t *testing.T) {
	for seed := range 100 {
		r := rand.New(rand.NewSource(int64(1000 + seed)))
		p := &plain{room: 100}
		var files []api.File
		for _, name := range []string{"c", "a", "manifest", "b"} {
			data := filled(r, r.Intn(20))
			safe := r.Intn(len(data) + 1)
			files = append(files, api.File{Name: name, Data: data, Safe: safe})
			p.files = append(p.files, plainFile{name, string(data), safe})
		}
		f, bad := simfs.Mount(100, files)
		if bad != api.OK {
			t.Fatal(bad)
		}
		alike(t, f, p)
		for range 100 {
			both(t, r, f, p)
			alike(t, f, p)
		}
		again, bad := simfs.Mount(100, f.Image())
		if bad != api.OK || !reflect.DeepEqual(again.Image(), f.Image()) {
			t.Fatal("an image laid again is another")
		}
	}
}
