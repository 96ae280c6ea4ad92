package simfs_test

import (
	"bytes"
	"math"
	"reflect"
	"slices"
	"strconv"
	"strings"
	"testing"

	"daybook/api"
	"daybook/simfs"
)

// all asks for OK of each.
func all(t *testing.T, answers ...api.Errno) {
	t.Helper()
	for i, e := range answers {
		if e != api.OK {
			t.Fatalf("the step %d: %d", i, e)
		}
	}
}

// disk is one with files a (5 bytes, 3 safe), b (4, none safe) and c (empty).
func disk(t *testing.T) *simfs.FS {
	t.Helper()
	f, bad := simfs.Mount(20, []api.File{{Name: "a", Data: []byte{1, 2, 3, 4, 5}, Safe: 3}, {Name: "b", Data: []byte{6, 7, 8, 9}}, {Name: "c"}})
	if bad != api.OK {
		t.Fatal(bad)
	}
	return f
}

// file is one of the image.
func file(t *testing.T, f *simfs.FS, name string) api.File {
	t.Helper()
	for _, x := range f.Image() {
		if x.Name == name {
			return x
		}
	}
	t.Fatalf("no file %q", name)
	return api.File{}
}

func holds(t *testing.T, f *simfs.FS, name string, data []byte, safe int) {
	t.Helper()
	if x := file(t, f, name); !bytes.Equal(x.Data, data) || x.Safe != safe {
		t.Errorf("%s holds %v, %d of them safe; not %v, %d", name, x.Data, x.Safe, data, safe)
	}
}

func TestP10_1New(t *testing.T) {
	for _, x := range []struct{ room, want int }{
		{0, 0}, {1, 1}, {10, 10}, {-1, 0}, {math.MinInt, 0}, {api.MaxRoom - 1, api.MaxRoom - 1}, {api.MaxRoom, api.MaxRoom}, {api.MaxRoom + 1, api.MaxRoom}, {math.MaxInt, api.MaxRoom},
	} {
		f := simfs.New(x.room)
		if f == nil || f.Free() != x.want || f.Used() != 0 || f.Steps() != 0 || f.ReadBytes() != 0 || f.Down() || len(f.List()) != 0 || len(f.Image()) != 0 {
			t.Errorf("New(%d): %#v", x.room, f)
		}
	}
	f := simfs.New(3)
	for i := range 50 { // no fuse is laid
		all(t, f.Create("x"), f.Remove("x"))
		if f.Steps() != 2*i+2 {
			t.Fatal("Steps")
		}
	}
}

func TestP10_1TheWholeRoom(t *testing.T) {
	f := simfs.New(math.MaxInt)
	all(t, f.Create("a"), f.Append("a", make([]byte, api.MaxRoom)))
	if f.Free() != 0 || f.Append("a", []byte{1}) != api.ErrFull {
		t.Error("more than MaxRoom")
	}
	if _, bad := simfs.Mount(math.MaxInt, []api.File{{Name: "a", Data: make([]byte, api.MaxRoom+1)}}); bad != api.ErrFull {
		t.Error("Mount of more than MaxRoom")
	}
	if f, bad := simfs.Mount(-5, []api.File{{Name: "a"}}); bad != api.OK || f.Free() != 0 {
		t.Error("Mount with a room below 0")
	}
	if _, bad := simfs.Mount(-5, []api.File{{Name: "a", Data: []byte{1}}}); bad != api.ErrFull {
		t.Error("Mount of a byte with a room below 0")
	}
}

func TestP10_1Right(t *testing.T) {
	for _, name := range []string{"a", "z", "0", "9", "-", ".", "..", "seg-000001", "manifest.tmp", strings.Repeat("a", 24), "abcdefghijklmnopqrstuvwx", "yz0123456789-."} {
		if !simfs.Right(name) {
			t.Errorf("Right(%q) is false", name)
		}
	}
	for _, name := range []string{"", "A", "a/b", "a b", " ", "é", "a\x00", "\xff", "a\n", strings.Repeat("a", 25), strings.Repeat("a", 1000000), "abcdefghijklmnopqrstuvwxé", "seg_1", "Seg-000001", "١"} {
		if simfs.Right(name) {
			t.Errorf("Right(%.40q) is true", name)
		}
	}
	for c := range 256 {
		want := bytes.IndexByte([]byte("abcdefghijklmnopqrstuvwxyz0123456789-."), byte(c)) >= 0
		one := string([]byte{byte(c)})
		for _, name := range []string{one, "a" + one, one + "a", "a" + one + "a"} {
			if simfs.Right(name) != want {
				t.Errorf("Right(%q) is %t", name, !want)
			}
		}
	}
}

// many is n files.
func many(n int) []api.File {
	var files []api.File
	for i := range n {
		files = append(files, api.File{Name: "f" + strconv.Itoa(i), Data: []byte{byte(i)}})
	}
	return files
}

func TestP10_2Mount(t *testing.T) {
	files := []api.File{{Name: "b", Data: []byte{1, 2}, Safe: 1}, {Name: "a"}, {Name: "c", Data: []byte{3}, Safe: 1}}
	f, bad := simfs.Mount(9, files)
	if bad != api.OK || f.Free() != 6 || f.Used() != 3 || f.Steps() != 0 || f.ReadBytes() != 0 || f.Down() || !slices.Equal(f.List(), []string{"a", "b", "c"}) {
		t.Fatalf("%#v, %d", f, bad)
	}
	holds(t, f, "a", nil, 0)
	holds(t, f, "b", []byte{1, 2}, 1)
	holds(t, f, "c", []byte{3}, 1)
	if f, bad := simfs.Mount(3, files); bad != api.OK || f.Free() != 0 {
		t.Error("as many bytes as the room")
	}
	if f, bad := simfs.Mount(0, nil); bad != api.OK || f == nil || len(f.Image()) != 0 {
		t.Error("no files")
	}
	if f, bad := simfs.Mount(10000, many(api.MaxFiles)); bad != api.OK || len(f.Image()) != 700 || f.Used() != 700 {
		t.Error("MaxFiles files")
	}
}

func TestP10_2Refused(t *testing.T) {
	ok := api.File{Name: "ok", Data: []byte{1, 2}, Safe: 2}
	noName := api.File{Name: "No", Data: make([]byte, 50), Safe: 60}
	full := api.File{Name: "full", Data: make([]byte, 8)}
	noSafe := api.File{Name: "s", Data: make([]byte, 50), Safe: 51}
	for i, x := range []struct {
		files []api.File
		want  api.Errno
	}{
		{many(api.MaxFiles + 1), api.ErrFiles},
		{slices.Repeat([]api.File{noName}, api.MaxFiles+1), api.ErrFiles},
		{slices.Repeat([]api.File{noName}, api.MaxFiles), api.ErrName},
		{[]api.File{{Name: ""}}, api.ErrName},
		{[]api.File{ok, noName}, api.ErrName},
		{[]api.File{{Name: strings.Repeat("a", 25)}}, api.ErrName},
		{[]api.File{ok, ok}, api.ErrExists},
		{[]api.File{ok, {Name: "a"}, {Name: "ok", Data: make([]byte, 50), Safe: -1}}, api.ErrExists},
		{[]api.File{{Name: "a", Safe: 1}}, api.ErrArg},
		{[]api.File{{Name: "a", Safe: -1}}, api.ErrArg},
		{[]api.File{{Name: "a", Safe: math.MaxInt}}, api.ErrArg},
		{[]api.File{{Name: "a", Safe: math.MinInt}}, api.ErrArg},
		{[]api.File{{Name: "a", Data: []byte{1, 2}, Safe: 3}}, api.ErrArg},
		{[]api.File{noSafe}, api.ErrArg},
		{[]api.File{ok, full}, api.ErrFull},
		{[]api.File{{Name: "a", Data: make([]byte, 10)}}, api.ErrFull},
		{[]api.File{{Name: "a", Data: make([]byte, 3)}, {Name: "b", Data: make([]byte, 3)}, {Name: "c", Data: make([]byte, 3)}, {Name: "d", Data: make([]byte, 1)}}, api.ErrFull},
		{[]api.File{ok, full, noName}, api.ErrFull}, // the first file that has an error
		{[]api.File{noName, ok, full}, api.ErrName},
		{[]api.File{ok, noSafe, noName}, api.ErrArg},
		{[]api.File{ok, ok, noName}, api.ErrExists},
	} {
		if f, bad := simfs.Mount(9, x.files); bad != x.want || f != nil {
			t.Errorf("the case %d: %#v, %d", i, f, bad)
		}
	}
}

// calls is every call that names a file, but Create, with a name that stands for it.
func calls(f *simfs.FS) []func(name string) api.Errno {
	return []func(name string) api.Errno{
		func(name string) api.Errno { return f.Append(name, make([]byte, 100)) },
		func(name string) api.Errno { return f.Append(name, nil) },
		f.Sync,
		func(name string) api.Errno { return f.Rename(name, "to") },
		func(name string) api.Errno { return f.Rename(name, name) },
		f.Remove,
		func(name string) api.Errno { return f.Cut(name, 0) },
		func(name string) api.Errno { return f.Cut(name, -1) },
		func(name string) api.Errno { return empty(f.Read(name, 0, 0)) },
		func(name string) api.Errno { return empty(f.Read(name, -1, 5)) },
		func(name string) api.Errno { return nought(f.Size(name)) },
	}
}

// empty is the error, if nothing stands beside it.
func empty(b []byte, e api.Errno) api.Errno {
	if len(b) != 0 {
		return -1
	}
	return e
}

func nought(n int, e api.Errno) api.Errno {
	if n != 0 {
		return -1
	}
	return e
}

func TestP10_3FirstErrors(t *testing.T) {
	f := disk(t)
	before := f.Image()
	for i, call := range append(calls(f), f.Create) {
		for _, name := range []string{"", "A", "a b", strings.Repeat("a", 25)} {
			if e := call(name); e != api.ErrName {
				t.Errorf("the call %d of %q: %d", i, name, e)
			}
		}
	}
	for i, call := range calls(f) {
		if e := call("nowhere"); e != api.ErrNoFile {
			t.Errorf("the call %d of no file: %d", i, e)
		}
	}
	for _, x := range []struct {
		from, to string
		want     api.Errno
	}{
		{"a", "", api.ErrName}, {"", "a", api.ErrName}, {"nowhere", "B", api.ErrName}, {"B", "nowhere", api.ErrName}, {"A", "B", api.ErrName},
		{"nowhere", "a", api.ErrNoFile}, {"nowhere", "nowhere", api.ErrNoFile}, {"nowhere", "there", api.ErrNoFile},
	} {
		if e := f.Rename(x.from, x.to); e != x.want {
			t.Errorf("Rename(%q, %q): %d", x.from, x.to, e)
		}
	}
	if !reflect.DeepEqual(f.Image(), before) || f.Steps() != 0 || f.ReadBytes() != 0 {
		t.Error("something has changed")
	}
}

func TestP10_3PowerOffIsFirst(t *testing.T) {
	f := disk(t)
	f.Fuse(1)
	if f.Sync("a") != api.ErrDown || !f.Down() {
		t.Fatal("the power is on")
	}
	before := f.Image()
	for i, call := range append(calls(f), f.Create) {
		for _, name := range []string{"a", "c", "nowhere", "", "A"} {
			if e := call(name); e != api.ErrDown {
				t.Errorf("the call %d of %q: %d", i, name, e)
			}
		}
	}
	if !reflect.DeepEqual(f.Image(), before) || f.Steps() != 0 || f.ReadBytes() != 0 || !f.Down() {
		t.Error("something has changed")
	}
}

func TestP10_4Create(t *testing.T) {
	f := disk(t)
	all(t, f.Create("d"))
	holds(t, f, "d", nil, 0)
	if f.Create("d") != api.ErrExists || f.Create("a") != api.ErrExists || f.Steps() != 1 {
		t.Error("a second one")
	}
	holds(t, f, "a", []byte{1, 2, 3, 4, 5}, 3)
	f.Restart(nil)
	holds(t, f, "d", nil, 0) // that a file is there is safe at once
}

func TestP10_4CreateTooMany(t *testing.T) {
	f, bad := simfs.Mount(10000, many(api.MaxFiles-1))
	if bad != api.OK || f.Create("last") != api.OK {
		t.Fatal("the last one")
	}
	if f.Create("one-more") != api.ErrFiles || f.Create("last") != api.ErrExists || f.Create("Last") != api.ErrName || len(f.List()) != api.MaxFiles {
		t.Error("one more than MaxFiles")
	}
	all(t, f.Rename("last", "f0"), f.Create("last"))
	if f.Create("one-more") != api.ErrFiles {
		t.Error("one more than MaxFiles")
	}
	all(t, f.Remove("f1"), f.Create("one-more"))
}

func TestP10_4Append(t *testing.T) {
	f := disk(t)
	all(t, f.Append("a", []byte{6, 7}), f.Append("c", nil), f.Append("c", []byte{8}))
	holds(t, f, "a", []byte{1, 2, 3, 4, 5, 6, 7}, 3)
	holds(t, f, "c", []byte{8}, 0)
	if f.Used() != 12 || f.Free() != 8 || f.Steps() != 3 {
		t.Error("Used, Free, Steps")
	}
	if f.Append("c", make([]byte, 9)) != api.ErrFull {
		t.Error("more than Free")
	}
	holds(t, f, "c", []byte{8}, 0)
	all(t, f.Append("c", make([]byte, 8)), f.Append("c", nil))
	if f.Free() != 0 || f.Append("a", []byte{1}) != api.ErrFull || f.Steps() != 5 {
		t.Error("a full disk")
	}
}

func TestP10_4Sync(t *testing.T) {
	f := disk(t)
	all(t, f.Sync("a"), f.Sync("c"), f.Sync("a"))
	holds(t, f, "a", []byte{1, 2, 3, 4, 5}, 5)
	holds(t, f, "b", []byte{6, 7, 8, 9}, 0)
	if f.Steps() != 3 {
		t.Error("Steps")
	}
}

func TestP10_4Rename(t *testing.T) {
	f := disk(t)
	all(t, f.Rename("a", "a"))
	holds(t, f, "a", []byte{1, 2, 3, 4, 5}, 3)
	all(t, f.Rename("a", "d"))
	holds(t, f, "d", []byte{1, 2, 3, 4, 5}, 3)
	if f.Used() != 9 || !slices.Equal(f.List(), []string{"b", "c", "d"}) {
		t.Error("to a new name")
	}
	all(t, f.Rename("d", "b"))
	holds(t, f, "b", []byte{1, 2, 3, 4, 5}, 3)
	if f.Used() != 5 || f.Free() != 15 || !slices.Equal(f.List(), []string{"b", "c"}) || f.Steps() != 3 {
		t.Error("over another file")
	}
	if f.Sync("d") != api.ErrNoFile || f.Create("b") != api.ErrExists {
		t.Error("the old name and the new one")
	}
	f.Restart(nil)
	holds(t, f, "b", []byte{1, 2, 3}, 3) // the name is safe at once, the bytes are not
}

func TestP10_4Remove(t *testing.T) {
	f := disk(t)
	all(t, f.Remove("a"), f.Remove("c"))
	if f.Used() != 4 || !slices.Equal(f.List(), []string{"b"}) || f.Remove("a") != api.ErrNoFile || f.Steps() != 2 {
		t.Error("Remove")
	}
	f.Restart(nil)
	if !slices.Equal(f.List(), []string{"b"}) {
		t.Error("a removal is safe at once")
	}
	all(t, f.Create("a"))
	holds(t, f, "a", nil, 0)
}

func TestP10_4Cut(t *testing.T) {
	for n := 0; n <= 5; n++ {
		f := disk(t)
		all(t, f.Cut("a", n))
		whole := []byte{1, 2, 3, 4, 5}
		holds(t, f, "a", whole[:n], min(n, 3))
		if f.Used() != 4+n || f.Steps() != 1 {
			t.Error("Used, Steps")
		}
		all(t, f.Append("a", []byte{9}))
		holds(t, f, "a", append(whole[:n:n], 9), min(n, 3))
		f.Restart(nil)
		holds(t, f, "a", whole[:min(n, 3)], min(n, 3))
	}
	f := disk(t)
	for _, n := range []int{-1, 6, math.MaxInt, math.MinInt} {
		if f.Cut("a", n) != api.ErrArg {
			t.Errorf("Cut to %d", n)
		}
	}
	if f.Cut("c", 1) != api.ErrArg || f.Cut("c", 0) != api.OK || f.Steps() != 1 {
		t.Error("Cut of an empty file")
	}
	holds(t, f, "a", []byte{1, 2, 3, 4, 5}, 3)
}

// steps is every step, none of which changes the disk if the power fails in its midst.
func steps(f *simfs.FS) []func() api.Errno {
	return []func() api.Errno{
		func() api.Errno { return f.Create("d") },
		func() api.Errno { return f.Sync("a") },
		func() api.Errno { return f.Rename("a", "b") },
		func() api.Errno { return f.Rename("a", "d") },
		func() api.Errno { return f.Rename("a", "a") },
		func() api.Errno { return f.Remove("a") },
		func() api.Errno { return f.Cut("a", 1) },
		func() api.Errno { return f.Append("a", nil) },
	}
}

func TestP10_5AStepThatFailsIsNotCarriedOut(t *testing.T) {
	for i := range steps(nil) {
		f := disk(t)
		before := f.Image()
		f.Fuse(1)
		if steps(f)[i]() != api.ErrDown || !f.Down() || f.Steps() != 0 || len(f.List()) != 0 || !reflect.DeepEqual(f.Image(), before) {
			t.Errorf("the step %d", i)
		}
		f.Restart([]int{9, 9, 9})
		if f.Down() || steps(f)[i]() != api.OK || f.Steps() != 1 { // the fuse is burnt
			t.Errorf("the step %d behind it", i)
		}
	}
}

func TestP10_5AnAppendThatFailsStands(t *testing.T) {
	f := disk(t)
	f.Fuse(1)
	if f.Append("a", []byte{6, 7}) != api.ErrDown || f.Used() != 11 || f.Free() != 9 || f.Steps() != 0 {
		t.Error("the Append")
	}
	holds(t, f, "a", []byte{1, 2, 3, 4, 5, 6, 7}, 3)
	f.Restart([]int{3})
	holds(t, f, "a", []byte{1, 2, 3, 4, 5, 6}, 6)
}

func TestP10_5TheNthStep(t *testing.T) {
	for n := 1; n <= 20; n++ {
		f := simfs.New(100)
		all(t, f.Create("a"))
		f.Fuse(n)
		for i := 1; i < n; i++ {
			all(t, f.Append("a", []byte{byte(i)}))
		}
		if f.Append("a", []byte{byte(n)}) != api.ErrDown || f.Used() != n || f.Steps() != n {
			t.Errorf("Fuse(%d): %d bytes, %d steps", n, f.Used(), f.Steps())
		}
	}
}

func TestP10_5AFuseIsTakenAway(t *testing.T) {
	for _, n := range []int{0, -1, math.MinInt, 1000, math.MaxInt} {
		f := disk(t)
		f.Fuse(1)
		f.Fuse(n)
		for range 50 {
			all(t, f.Sync("a"))
		}
	}
	f := disk(t)
	f.Fuse(5)
	all(t, f.Sync("a"), f.Sync("a"))
	f.Fuse(2) // from now on
	all(t, f.Sync("a"))
	if f.Sync("a") != api.ErrDown {
		t.Error("the later fuse")
	}
	f.Fuse(1) // while it is off; the restart takes it away
	f.Restart(nil)
	all(t, f.Sync("a"), f.Sync("a"))
	f.Fuse(1)
	f.Restart(nil)
	all(t, f.Sync("a"), f.Sync("a"))
}

func TestP10_5WhatIsBarredBurnsNothing(t *testing.T) {
	f := disk(t)
	f.Fuse(1)
	for i, e := range []api.Errno{
		f.Create("a"), f.Create("A"), f.Append("a", make([]byte, 12)), f.Append("nowhere", nil), f.Append("", nil), f.Sync("nowhere"), f.Sync("A"),
		f.Rename("a", "B"), f.Rename("nowhere", "a"), f.Remove("nowhere"), f.Remove("A"), f.Cut("a", 6), f.Cut("a", -1), f.Cut("nowhere", 0),
		empty(f.Read("a", 6, 0)), empty(f.Read("nowhere", 0, 0)), nought(f.Size("nowhere")),
	} {
		if e == api.OK || e == api.ErrDown {
			t.Errorf("the call %d: %d", i, e)
		}
	}
	if _, bad := f.Read("a", 0, 5); bad != api.OK {
		t.Error("a Read is no step")
	}
	if _, bad := f.Size("a"); bad != api.OK || len(f.List()) != 3 || f.Down() || f.Steps() != 0 {
		t.Error("nor are the others")
	}
	if f.Sync("a") != api.ErrDown || !f.Down() {
		t.Error("the first step")
	}
}

func TestP10_5WhatIsBarredByMaxFilesBurnsNothing(t *testing.T) {
	f, _ := simfs.Mount(1000, many(api.MaxFiles))
	f.Fuse(1)
	if f.Create("x") != api.ErrFiles || f.Down() || f.Sync("f0") != api.ErrDown {
		t.Error("a Create too many")
	}
}

func TestP10_6Read(t *testing.T) {
	f := disk(t)
	whole, total := []byte{1, 2, 3, 4, 5}, 0
	for at := 0; at <= 5; at++ {
		for n := 0; n <= 5-at; n++ {
			b, bad := f.Read("a", at, n)
			total += n
			if bad != api.OK || !bytes.Equal(b, whole[at:at+n]) || f.ReadBytes() != total {
				t.Errorf("Read(%d, %d) = %v, %d", at, n, b, bad)
			}
		}
	}
	for _, x := range [][2]int{{-1, 0}, {0, -1}, {-1, -1}, {-1, 1}, {6, 0}, {6, -1}, {5, 1}, {0, 6}, {4, 2}, {2, math.MaxInt}, {math.MaxInt, 0}, {math.MaxInt, math.MaxInt}, {math.MinInt, 0}, {0, math.MinInt}, {math.MinInt, math.MinInt}, {1, math.MaxInt}, {math.MaxInt, 2}} {
		if b, bad := f.Read("a", x[0], x[1]); bad != api.ErrArg || len(b) != 0 {
			t.Errorf("Read(%d, %d) = %v, %d", x[0], x[1], b, bad)
		}
	}
	if b, bad := f.Read("c", 0, 0); bad != api.OK || len(b) != 0 {
		t.Error("Read of an empty file")
	}
	if f.ReadBytes() != total || f.Steps() != 0 {
		t.Error("ReadBytes, Steps")
	}
	f.Restart(nil)
	if f.ReadBytes() != total {
		t.Error("ReadBytes behind a restart")
	}
}

func TestP10_6SizeListAndImage(t *testing.T) {
	f, bad := simfs.Mount(100, []api.File{{Name: "b"}, {Name: "a9", Data: []byte{1}}, {Name: "a"}, {Name: "a.b", Data: []byte{2, 3}, Safe: 1}, {Name: "a-b"}, {Name: "0"}, {Name: "aa"}, {Name: "a10"}})
	if bad != api.OK {
		t.Fatal(bad)
	}
	sorted := []string{"0", "a", "a-b", "a.b", "a10", "a9", "aa", "b"}
	if !slices.Equal(f.List(), sorted) {
		t.Errorf("List = %q", f.List())
	}
	if n, bad := f.Size("a.b"); n != 2 || bad != api.OK {
		t.Errorf("Size = %d, %d", n, bad)
	}
	f.Fuse(1)
	f.Sync("a")
	if len(f.List()) != 0 || !f.Down() || f.Used() != 3 || f.Free() != 97 {
		t.Error("with the power off")
	}
	image := f.Image()
	for i, x := range image {
		if x.Name != sorted[i] {
			t.Errorf("the file %d is %q", i, x.Name)
		}
	}
	if len(image) != 8 || image[3].Safe != 1 || !bytes.Equal(image[3].Data, []byte{2, 3}) {
		t.Errorf("Image = %#v", image)
	}
}

func TestP10_6StepsAreThoseThatAnsweredOK(t *testing.T) {
	f := disk(t)
	for i, step := range steps(f) {
		want := api.OK
		if i > 2 { // the third step gives a another name
			want = api.ErrNoFile
		}
		if e := step(); e != want {
			t.Errorf("the step %d: %d", i, e)
		}
	}
	if f.Steps() != 3 {
		t.Errorf("Steps = %d", f.Steps())
	}
	f.Fuse(1)
	f.Append("b", []byte{1})
	if f.Steps() != 3 {
		t.Error("the step in which the power fails is counted")
	}
	f.Restart(nil)
	if f.Steps() != 3 {
		t.Error("Steps behind a restart")
	}
}

func TestP10_7Restart(t *testing.T) {
	a, b := []byte{1, 2, 3, 4, 5}, []byte{6, 7, 8, 9}
	for _, off := range []bool{false, true} {
		for _, x := range []struct {
			keep []int
			a, b int
		}{
			{nil, 3, 0}, {[]int{}, 3, 0}, {[]int{0, 0, 0}, 3, 0}, {[]int{1}, 4, 0}, {[]int{2}, 5, 0}, {[]int{3}, 5, 0}, {[]int{0, 1}, 3, 1}, {[]int{1, 4}, 4, 4}, {[]int{5, 5, 5}, 5, 4},
			{[]int{-1, -1}, 3, 0}, {[]int{math.MinInt, 3}, 3, 3}, {[]int{math.MaxInt, math.MaxInt, math.MaxInt, math.MaxInt}, 5, 4}, {[]int{math.MaxInt - 2}, 5, 0}, {[]int{0, 2, 7, 1, 1, 1}, 3, 2},
		} {
			f := disk(t)
			if off {
				f.Fuse(1)
				f.Remove("a")
			}
			f.Restart(x.keep)
			holds(t, f, "a", a[:x.a], x.a)
			holds(t, f, "b", b[:x.b], x.b)
			holds(t, f, "c", nil, 0)
			if f.Down() || f.Used() != x.a+x.b || f.Free() != 20-x.a-x.b || len(f.List()) != 3 {
				t.Errorf("Restart(%v): %d bytes", x.keep, f.Used())
			}
			all(t, f.Append("a", []byte{99}))
			holds(t, f, "a", append(a[:x.a:x.a], 99), x.a)
			f.Restart(nil)
			holds(t, f, "a", a[:x.a], x.a)
		}
	}
}

func TestP10TheExamples(t *testing.T) {
	f := simfs.New(10)
	all(t, f.Create("a"), f.Append("a", []byte{1, 2, 3}), f.Sync("a"), f.Append("a", []byte{4, 5}))
	if f.Used() != 5 || f.Free() != 5 {
		t.Error("Used and Free")
	}
	f.Restart([]int{1})
	holds(t, f, "a", []byte{1, 2, 3, 4}, 4)
	if f.Append("a", make([]byte, 7)) != api.ErrFull {
		t.Error("7 bytes")
	}
	f.Fuse(2)
	all(t, f.Create("b"))
	if f.Append("b", []byte{8, 9}) != api.ErrDown || f.Used() != 6 || len(f.List()) != 0 {
		t.Error("the second example")
	}
	f.Restart([]int{0, 1})
	holds(t, f, "b", []byte{8}, 1)
	if f.Create("A") != api.ErrName || empty(f.Read("a", 5, 0)) != api.ErrArg || empty(f.Read("a", 4, 0)) != api.OK {
		t.Error("the third example")
	}
}

func TestP10_8Nil(t *testing.T) {
	var f *simfs.FS
	for i, call := range append(calls(f), f.Create) {
		for _, name := range []string{"a", "", "A"} {
			if e := call(name); e != api.ErrArg {
				t.Errorf("the call %d of %q: %d", i, name, e)
			}
		}
	}
	f.Fuse(1)
	f.Restart([]int{1})
	if len(f.List()) != 0 || f.Used() != 0 || f.Free() != 0 || len(f.Image()) != 0 || f.Steps() != 0 || f.ReadBytes() != 0 || f.Down() {
		t.Error("what answers no Errno")
	}
}

func TestRule1ADiskThatNewDidNotMake(t *testing.T) {
	f := new(simfs.FS)
	for i, call := range calls(f) {
		if e := call("a"); e != api.ErrNoFile {
			t.Errorf("the call %d: %d", i, e)
		}
	}
	f.Restart([]int{1})
	if f.Free() != 0 || len(f.Image()) != 0 || len(f.List()) != 0 || f.Create("a") != api.OK || f.Append("a", []byte{1}) != api.ErrFull {
		t.Error("a disk without room")
	}
}

// roomy is b with bytes behind its end, and all of it to look at later.
func roomy(b []byte) ([]byte, []byte) {
	whole := append(slices.Clone(b), bytes.Repeat([]byte{0xee}, 40)...)
	return whole[:len(b)], whole
}

func TestRule4ArgumentsAreNeitherChangedNorKept(t *testing.T) {
	data, whole := roomy([]byte{1, 2, 3})
	was := slices.Clone(whole)
	files := append(make([]api.File, 0, 4), api.File{Name: "a", Data: data, Safe: 1}, api.File{Name: "b", Data: data})
	f, bad := simfs.Mount(100, files)
	all(t, bad, f.Append("a", []byte{4, 5}), f.Append("b", data), f.Cut("b", 4), f.Append("b", []byte{7, 8, 9}), f.Rename("b", "c"), f.Create("b"))
	keep, kept := []int{1, 0, 2}, []int{1, 0, 2}
	f.Restart(keep)
	if !bytes.Equal(whole, was) || !slices.Equal(keep, kept) || files[0].Name != "a" || files[1].Safe != 0 || len(files[1].Data) != 3 || files[:4][2].Name != "" {
		t.Error("an argument is changed")
	}
	clear(whole)
	clear(files)
	holds(t, f, "a", []byte{1, 2}, 2)
	holds(t, f, "c", []byte{1, 2}, 2)
	b := []byte{5, 6}
	all(t, f.Append("b", b))
	b[0] = 9
	holds(t, f, "b", []byte{5, 6}, 0)
}

func TestRule4AnswersAreNewMemory(t *testing.T) {
	f := disk(t)
	want := f.Image()
	one, two := f.Image(), f.Image()
	_ = append(one[0].Data, 99, 99)
	clear(one[0].Data)
	one[1].Name = "x"
	list := f.List()
	list[0] = "x"
	b, _ := f.Read("a", 1, 3)
	again, _ := f.Read("a", 1, 3)
	_ = append(b, 99)
	clear(b)
	if !bytes.Equal(again, []byte{2, 3, 4}) || !reflect.DeepEqual(two, want) || !reflect.DeepEqual(f.Image(), want) || f.List()[0] != "a" {
		t.Error("an answer shares memory")
	}
	all(t, f.Append("a", []byte{6}), f.Cut("b", 1), f.Append("b", []byte{1, 1, 1}))
	if !reflect.DeepEqual(two, want) {
		t.Error("an answer changes with the disk")
	}
}

func TestRule6DisksNeverMeet(t *testing.T) {
	f := disk(t)
	g, bad := simfs.Mount(20, f.Image())
	want := f.Image()
	all(t, bad, g.Append("a", []byte{9}), g.Remove("b"), g.Create("z"), g.Cut("a", 1), g.Append("a", []byte{7, 7}))
	g.Fuse(1)
	g.Sync("a")
	if !reflect.DeepEqual(f.Image(), want) || f.Down() || f.Steps() != 0 || g.Steps() != 5 {
		t.Error("one disk changes the other")
	}
}
