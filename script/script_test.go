package script_test

import (
	"math"
	"math/rand"
	"slices"
	"strings"
	"testing"

	"daybook/api"
	"daybook/script"
)

var place = api.Event{Kind: api.Place, Order: 7}

func TestP25_1Verbs(t *testing.T) {
	vs := script.Verbs()
	if !slices.Equal(vs, allVerbs) || len(vs) != 18 || !slices.IsSorted(vs) {
		t.Errorf("Verbs() = %v", vs)
	}
	clear(vs[:cap(vs)])
	if again := script.Verbs(); !slices.Equal(again, allVerbs) {
		t.Errorf("what was given out was kept: %v", again)
	}
	if script.MaxKeep != 64 {
		t.Errorf("MaxKeep is %d", script.MaxKeep)
	}
}

func TestP25_2Line(t *testing.T) {
	type command = api.Command
	for _, x := range []struct {
		c    command
		want string
		bad  api.Errno
	}{
		// A line of each verb.
		{command{Verb: "sync"}, "sync", api.OK},
		{command{Verb: "rotate"}, "rotate", api.OK},
		{command{Verb: "snapshot"}, "snapshot", api.OK},
		{command{Verb: "compact"}, "compact", api.OK},
		{command{Verb: "close"}, "close", api.OK},
		{command{Verb: "list"}, "list", api.OK},
		{command{Verb: "audit"}, "audit", api.OK},
		{command{Verb: "view"}, "view", api.OK},
		{command{Verb: "err"}, "err", api.OK},
		{command{Verb: "orders"}, "orders", api.OK},
		{command{Verb: "disk", Nums: []int{0}}, "disk 0", api.OK},
		{command{Verb: "load", Nums: []int{-5}}, "load -5", api.OK},
		{command{Verb: "replay", Nums: []int{math.MaxInt}}, "replay 9223372036854775807", api.OK},
		{command{Verb: "fuse", Nums: []int{math.MinInt}}, "fuse -9223372036854775808", api.OK},
		{command{Verb: "open", Nums: []int{4, 8}}, "open 4 8", api.OK},
		{command{Verb: "crash"}, "crash", api.OK},
		{command{Verb: "crash", Nums: []int{0, 12, -1}}, "crash 0 12 -1", api.OK},
		{command{Verb: "crash", Nums: make([]int, 64)}, "crash" + strings.Repeat(" 0", 64), api.OK},
		{command{Verb: "append", Nums: []int{5}, Event: place}, "append 5 place order=7", api.OK},
		{command{Verb: "append", Nums: []int{1}, Event: api.Event{Kind: api.Add, Order: 7, Qty: -2}}, "append 1 add order=7 qty=-2", api.OK},
		{command{Verb: "append", Nums: []int{5}, Event: api.Event{Kind: api.Clear, Order: 7, Who: "a-1", Note: " \n"}}, "append 5 clear order=7 who=a-1 note=200a", api.OK},
		{command{Verb: "put", Raw: []byte{5, 2, 1, 4, 7}}, "put 0502010407", api.OK},
		{command{Verb: "put", Raw: []byte{0}}, "put 00", api.OK},
		{command{Verb: "sync", Nums: []int{}, Raw: []byte{}}, "sync", api.OK}, // nil and empty are one
		// No verb, or another number of numbers.
		{command{}, "", api.ErrLine},
		{command{Verb: "Sync"}, "", api.ErrLine},
		{command{Verb: "sync "}, "", api.ErrLine},
		{command{Verb: "sync\n"}, "", api.ErrLine},
		{command{Verb: "syn"}, "", api.ErrLine},
		{command{Verb: "syncs"}, "", api.ErrLine},
		{command{Verb: "open 4 8"}, "", api.ErrLine},
		{command{Verb: "sync", Nums: []int{1}}, "", api.ErrLine},
		{command{Verb: "load"}, "", api.ErrLine},
		{command{Verb: "load", Nums: []int{1, 2}}, "", api.ErrLine},
		{command{Verb: "open", Nums: []int{1}}, "", api.ErrLine},
		{command{Verb: "open", Nums: []int{1, 2, 3}}, "", api.ErrLine},
		{command{Verb: "crash", Nums: make([]int, 65)}, "", api.ErrLine},
		{command{Verb: "append", Event: place}, "", api.ErrLine},
		{command{Verb: "append", Nums: []int{5, 5}, Event: place}, "", api.ErrLine},
		{command{Verb: "put", Nums: []int{5}, Raw: []byte{1}}, "", api.ErrLine},
		// A part that the verb doesn't have.
		{command{Verb: "sync", Raw: []byte{1}}, "", api.ErrField},
		{command{Verb: "sync", Event: place}, "", api.ErrField},
		{command{Verb: "load", Nums: []int{1}, Event: api.Event{Note: "x"}}, "", api.ErrField},
		{command{Verb: "append", Nums: []int{5}, Event: place, Raw: []byte{1}}, "", api.ErrField},
		{command{Verb: "put", Event: place, Raw: []byte{1}}, "", api.ErrField},
		{command{Verb: "put", Event: place}, "", api.ErrField},
		{command{Verb: "crash", Event: api.Event{Stamp: -1}}, "", api.ErrField},
		// Events that are none, and no bytes.
		{command{Verb: "append", Nums: []int{6}, Event: place}, "", api.ErrVersion},
		{command{Verb: "append", Nums: []int{0}}, "", api.ErrVersion},
		{command{Verb: "append", Nums: []int{5}}, "", api.ErrKind},
		{command{Verb: "append", Nums: []int{2}, Event: api.Event{Kind: api.Drop, Order: 7}}, "", api.ErrKind},
		{command{Verb: "append", Nums: []int{5}, Event: api.Event{Kind: api.Place}}, "", api.ErrField},
		{command{Verb: "append", Nums: []int{5}, Event: api.Event{Kind: api.Place, Order: 7, Who: strings.Repeat("a", 17)}}, "", api.ErrBig},
		{command{Verb: "put"}, "", api.ErrWord},
		{command{Verb: "put", Raw: []byte{}}, "", api.ErrWord},
		// The first of several.
		{command{Verb: "x", Event: place, Raw: []byte{1}}, "", api.ErrLine},
		{command{Verb: "sync", Nums: []int{1}, Raw: []byte{1}}, "", api.ErrLine},
		{command{Verb: "append", Nums: []int{6}, Event: place, Raw: []byte{1}}, "", api.ErrField},
	} {
		got, bad := script.Line(x.c)
		want, wanted := modelLine(x.c)
		if got != x.want || bad != x.bad || got != want || bad != wanted {
			t.Errorf("Line(%v) = %q, %d, not %q, %d (the model: %q, %d)", x.c, got, bad, x.want, x.bad, want, wanted)
		}
		if x.bad != api.OK {
			continue
		}
		if c, bad := script.Command(x.want); !same(c, x.c) || bad != api.OK {
			t.Errorf("Command(%q) = %v, %d", x.want, c, bad)
		}
	}
}

func TestP25_3Command(t *testing.T) {
	for _, x := range []struct {
		line string
		bad  api.Errno
	}{
		// The chapter's examples.
		{"open 4 8", api.OK}, {"append 5 place order=7", api.OK}, {"put 0502010407", api.OK}, {"crash", api.OK}, {"crash 0 12 -1", api.OK},
		{"open 4", api.ErrLine}, {"sync now", api.ErrLine}, {"sync ", api.ErrLine}, {"", api.ErrLine}, {"put", api.ErrLine}, {"append 5", api.ErrLine},
		{"open 4 08", api.ErrWord}, {"put 5", api.ErrWord}, {"put ", api.ErrWord}, {"append x place", api.ErrWord},
		{"append 6 place order=7", api.ErrVersion}, {"append 5 place", api.ErrField},
		// The verb.
		{" ", api.ErrLine}, {" sync", api.ErrLine}, {"Sync", api.ErrLine}, {"sync\n", api.ErrLine}, {"sync\t", api.ErrLine}, {"syncs", api.ErrLine}, {"x", api.ErrLine}, {"x 08", api.ErrLine}, {"place order=7", api.ErrLine}, {"5 place order=7", api.ErrLine}, {"\x00", api.ErrLine},
		// How many words.
		{"sync 1", api.ErrLine}, {"sync 08", api.ErrLine}, {"load", api.ErrLine}, {"load 1 2", api.ErrLine}, {"load 08 2", api.ErrLine}, {"load 1 ", api.ErrLine}, {"load  1", api.ErrLine}, {"open", api.ErrLine}, {"open 1 2 3", api.ErrLine}, {"open 4 8 ", api.ErrLine}, {"open  4 8", api.ErrLine}, {"open 4  8", api.ErrLine},
		{"put 05 02", api.ErrLine}, {"put  ", api.ErrLine}, {"put  05", api.ErrLine}, {"append", api.ErrLine}, {"append ", api.ErrLine}, {"append x", api.ErrLine},
		{"crash" + strings.Repeat(" 1", 64), api.OK}, {"crash" + strings.Repeat(" 1", 65), api.ErrLine}, {"crash" + strings.Repeat(" x", 65), api.ErrLine},
		// The numbers.
		{"load 0", api.OK}, {"load -1", api.OK}, {"load 9223372036854775807", api.OK}, {"load -9223372036854775808", api.OK},
		{"load 9223372036854775808", api.ErrWord}, {"load +1", api.ErrWord}, {"load -0", api.ErrWord}, {"load ", api.ErrWord}, {"load 1\n", api.ErrWord}, {"load 1.", api.ErrWord}, {"load x", api.ErrWord}, {"open  8", api.ErrWord}, {"open 4 ", api.ErrWord}, {"open x y", api.ErrWord}, {"crash ", api.ErrWord}, {"crash 1 ", api.ErrWord}, {"crash 1  2", api.ErrWord}, {"crash" + strings.Repeat(" 1", 63) + " x", api.ErrWord},
		// An append.
		{"append  place order=7", api.ErrWord}, {"append 05 place order=7", api.ErrWord}, {"append 05 x", api.ErrWord}, {"append 5 ", api.ErrLine}, {"append 5  place order=7", api.ErrLine}, {"append 5 place order=7 ", api.ErrLine}, {"append 5 x order=7", api.ErrLine}, {"append 5 place order", api.ErrLine}, {"append 5 place order=07", api.ErrWord}, {"append 0 place order=7", api.ErrVersion}, {"append -1 place order=7", api.ErrVersion}, {"append 9 x", api.ErrLine},
		{"append 4 clear order=7", api.ErrKind}, {"append 5 clear order=7", api.OK}, {"append 1 add order=7 qty=-2", api.OK}, {"append 5 add order=7 qty=-2", api.ErrField}, {"append 5 place order=7 note=0a20", api.OK}, {"append 5 place order=7 who=" + strings.Repeat("a", 17), api.ErrBig},
		{"append 5 add order=7 item=3 qty=2 price=500 cur=1 tax=9 who=ann stamp=4 note=6869", api.OK},
		// A put.
		{"put 0", api.ErrWord}, {"put 00", api.OK}, {"put 0G", api.ErrWord}, {"put 0A", api.ErrWord}, {"put xx", api.ErrWord}, {"put 05\n", api.ErrWord}, {"put " + strings.Repeat("5a", 3000), api.OK}, {"put " + strings.Repeat("5a", 3000) + "5", api.ErrWord},
	} {
		c, bad := script.Command(x.line)
		want, wanted := modelCommand(x.line)
		if bad != x.bad || !same(c, want) || bad != wanted {
			t.Errorf("Command(%q) = %v, %d, not %d (the model: %v, %d)", x.line, c, bad, x.bad, want, wanted)
		}
		if bad == api.OK {
			if line, bad := script.Line(c); line != x.line || bad != api.OK {
				t.Errorf("Line of %q: %q, %d", x.line, line, bad)
			}
		} else if !isZero(c) {
			t.Errorf("beside the error of %q stands %v", x.line, c)
		}
	}
	want := api.Command{Verb: "append", Nums: []int{5}, Event: api.Event{Kind: api.Add, Order: 7, Item: 3, Qty: 2, Price: 500, Cur: 1, Tax: 9, Who: "ann", Stamp: 4, Note: "hi"}}
	if c, bad := script.Command("append 5 add order=7 item=3 qty=2 price=500 cur=1 tax=9 who=ann stamp=4 note=6869"); !same(c, want) || bad != api.OK {
		t.Errorf("of all fields: %v, %d", c, bad)
	}
	if c, bad := script.Command("crash 0 12 -1"); !same(c, api.Command{Verb: "crash", Nums: []int{0, 12, -1}}) || bad != api.OK {
		t.Errorf("of some numbers: %v, %d", c, bad)
	}
	if c, bad := script.Command("put 0af0"); !same(c, api.Command{Verb: "put", Raw: []byte{10, 240}}) || bad != api.OK {
		t.Errorf("of bytes: %v, %d", c, bad)
	}
}

func TestP25_4Parse(t *testing.T) {
	syncs := func(n int) string { return strings.Repeat("sync\n", n) }
	long := func(n int) string { return "put " + strings.Repeat("5a", (n-5)/2) + "\n" } // n is odd
	for _, x := range []struct {
		text string
		n    int
		bad  api.Errno
	}{
		{"", 0, api.OK},
		{"sync\n", 0, api.OK},
		{"open 4 8\nload 7\nclose\n", 0, api.OK},
		{"sync", 1, api.ErrShort},
		{"sync\nsync", 2, api.ErrShort},
		{"x", 1, api.ErrShort}, // ahead of Command's error
		{" ", 1, api.ErrShort},
		{"\n", 1, api.ErrLine},
		{"\n\n", 1, api.ErrLine},
		{"sync\n\n", 2, api.ErrLine},
		{"\nsync\n", 1, api.ErrLine},
		{"sync\r\n", 1, api.ErrLine},
		{"sync\nx\nload 08\n", 2, api.ErrLine},
		{"sync\nload 08\nx\n", 2, api.ErrWord},
		{"sync\nload 08\nx", 2, api.ErrWord},
		{"append 6 place order=7\n", 1, api.ErrVersion},
		{"sync\nappend 5 place\n", 2, api.ErrField},
		{syncs(400), 0, api.OK},
		{syncs(401), 401, api.ErrLines},
		{syncs(2000), 401, api.ErrLines},
		{syncs(400) + "x\n", 401, api.ErrLines},
		{syncs(400) + "x", 401, api.ErrLines}, // ahead of the missing line end
		{syncs(400) + "\n", 401, api.ErrLines},
		{syncs(399) + "x\n", 400, api.ErrLine},
		{syncs(399) + "sync", 400, api.ErrShort},
		{"x\n" + syncs(400), 1, api.ErrLine},
		{syncs(5) + "open 1\n" + syncs(400), 6, api.ErrLine},
		{long(65531) + "sync\n", 0, api.OK},
		{long(65531) + "close\n", 0, api.ErrLines},
		{"sync\n" + long(65531), 0, api.OK},
		{"x\n" + long(65535), 0, api.ErrLines},
		{strings.Repeat("x", 65536), 1, api.ErrShort},
		{strings.Repeat("x", 65537), 0, api.ErrLines},
		{strings.Repeat("\n", 65536), 1, api.ErrLine},
		{strings.Repeat("\n", 65537), 0, api.ErrLines},
		{strings.Repeat(" ", 65535) + "\n", 1, api.ErrLine},
		{"crash" + strings.Repeat(" ", 65530) + "\n", 1, api.ErrLine},
		{"append 5 place" + strings.Repeat(" ", 65521) + "\n", 1, api.ErrLine},
	} {
		cs, n, bad := script.Parse(x.text)
		want, line, wanted := modelParse(x.text)
		if n != x.n || bad != x.bad || !sameAll(cs, want) || n != line || bad != wanted {
			t.Errorf("Parse(%.60q, of %d) = %d of them, %d, %d, not %d, %d", x.text, len(x.text), len(cs), n, bad, x.n, x.bad)
		}
		if bad == api.OK {
			if text, n, bad := script.Print(cs); text != x.text || n != 0 || bad != api.OK {
				t.Errorf("Print of %.60q: %.60q, %d, %d", x.text, text, n, bad)
			}
		}
	}
	want := []api.Command{{Verb: "open", Nums: []int{4, 8}}, {Verb: "append", Nums: []int{5}, Event: place}, {Verb: "put", Raw: []byte{1}}, {Verb: "crash"}}
	if cs, n, bad := script.Parse("open 4 8\nappend 5 place order=7\nput 01\ncrash\n"); !sameAll(cs, want) || n != 0 || bad != api.OK {
		t.Errorf("Parse = %v, %d, %d", cs, n, bad)
	}
}

func TestP25_5Print(t *testing.T) {
	few := func(cs ...api.Command) []api.Command { return cs }
	sync, load, wrong := api.Command{Verb: "sync"}, api.Command{Verb: "load", Nums: []int{3}}, api.Command{Verb: "x"}
	syncs := func(n int) []api.Command { return slices.Repeat(few(sync), n) }
	long := func(n int) api.Command { return api.Command{Verb: "put", Raw: make([]byte, (n-5)/2)} } // n is odd
	for _, x := range []struct {
		cs   []api.Command
		text string
		n    int
		bad  api.Errno
	}{
		{nil, "", 0, api.OK},
		{few(), "", 0, api.OK},
		{few(sync), "sync\n", 0, api.OK},
		{few(sync, load), "sync\nload 3\n", 0, api.OK},
		{few(wrong), "", 1, api.ErrLine},
		{few(sync, wrong), "", 2, api.ErrLine},
		{few(sync, api.Command{Verb: "put"}, wrong), "", 2, api.ErrWord},
		{few(sync, api.Command{Verb: "sync", Event: place}), "", 2, api.ErrField},
		{few(load, api.Command{Verb: "append", Nums: []int{6}, Event: place}), "", 2, api.ErrVersion},
		{syncs(400), strings.Repeat("sync\n", 400), 0, api.OK},
		{syncs(401), "", 401, api.ErrLines},
		{append(syncs(400), wrong), "", 401, api.ErrLines}, // ahead of Line's error
		{append(syncs(399), wrong, sync), "", 400, api.ErrLine},
		{append(few(wrong), syncs(400)...), "", 1, api.ErrLine},
		{few(long(65531), sync), "put " + strings.Repeat("00", 32763) + "\nsync\n", 0, api.OK},
		{few(long(65531), api.Command{Verb: "close"}), "", 2, api.ErrLines},
		{few(long(65531), sync, sync, wrong), "", 3, api.ErrLines},
		{few(long(65531), wrong), "", 2, api.ErrLine},
		{few(long(65537)), "", 1, api.ErrLines},
		{few(sync, long(65537), wrong), "", 2, api.ErrLines},
		{few(long(1<<20+1), wrong), "", 1, api.ErrLines},
		{append(few(long(65535)), syncs(400)...), "", 2, api.ErrLines},
	} {
		text, n, bad := script.Print(x.cs)
		want, number, wanted := modelPrint(x.cs)
		if text != x.text || n != x.n || bad != x.bad || text != want || n != number || bad != wanted {
			t.Errorf("Print of %d = %.60q, %d, %d, not %.60q, %d, %d", len(x.cs), text, n, bad, x.text, x.n, x.bad)
		}
		if bad == api.OK {
			if cs, n, bad := script.Parse(text); !sameAll(cs, x.cs) || n != 0 || bad != api.OK {
				t.Errorf("Parse(%.60q) = %d of them, %d, %d", text, len(cs), n, bad)
			}
		}
	}
}

// Each command is held against the model, and what is written is read again.
func TestP25_2To3ThereAndBack(t *testing.T) {
	r := rand.New(rand.NewSource(25))
	lines, commands := map[api.Errno]int{}, map[api.Errno]int{}
	for range 100000 {
		c := anyCommand(r)
		line, bad := script.Line(c)
		if want, wanted := modelLine(c); line != want || bad != wanted {
			t.Fatalf("Line(%v) = %q, %d, not %q, %d", c, line, bad, want, wanted)
		}
		lines[bad]++
		if bad != api.OK {
			continue
		}
		if got, bad := script.Command(line); !same(got, c) || bad != api.OK {
			t.Fatalf("Command(%q) = %v, %d, not %v", line, got, bad, c)
		}
		for range 1 + r.Intn(2) {
			line = spoilt(r, line)
		}
		got, bad := script.Command(line)
		if want, wanted := modelCommand(line); !same(got, want) || bad != wanted {
			t.Fatalf("Command(%q) = %v, %d, not %v, %d", line, got, bad, want, wanted)
		}
		commands[bad]++
		if bad == api.OK {
			if again, bad := script.Line(got); again != line || bad != api.OK {
				t.Fatalf("Line(%v) = %q, %d, not %q", got, again, bad, line)
			}
		}
	}
	for _, bad := range []api.Errno{api.OK, api.ErrLine, api.ErrWord, api.ErrField, api.ErrVersion, api.ErrKind} {
		if lines[bad] < 30 {
			t.Errorf("Line has answered %d only %d times", bad, lines[bad])
		}
	}
	for _, bad := range []api.Errno{api.OK, api.ErrLine, api.ErrWord, api.ErrField} {
		if commands[bad] < 30 {
			t.Errorf("Command has answered %d only %d times", bad, commands[bad])
		}
	}
}

// What Print writes, Parse gives back; what Parse takes, Print writes again.
func TestP25_6ThereAndBack(t *testing.T) {
	r := rand.New(rand.NewSource(6))
	taken, refused := 0, map[api.Errno]int{}
	for i := range 6000 {
		var cs []api.Command
		for range r.Intn(6) {
			cs = append(cs, someCommand(r))
		}
		if i%200 == 0 { // close to how many there may be, and to how long they may be
			for range 390 + r.Intn(20) {
				cs = append(cs, someCommand(r))
			}
		}
		if r.Intn(8) == 0 {
			cs = append(cs, anyCommand(r))
		}
		text, n, bad := script.Print(cs)
		if want, number, wanted := modelPrint(cs); text != want || n != number || bad != wanted {
			t.Fatalf("Print(%v) = %q, %d, %d, not %q, %d, %d", cs, text, n, bad, want, number, wanted)
		}
		if bad == api.OK {
			if got, n, bad := script.Parse(text); !sameAll(got, cs) || n != 0 || bad != api.OK {
				t.Fatalf("Parse(%q) = %v, %d, %d", text, got, n, bad)
			}
		}
		for range 1 + r.Intn(3) {
			text = spoilt(r, text)
		}
		got, n, bad := script.Parse(text)
		if want, number, wanted := modelParse(text); !sameAll(got, want) || n != number || bad != wanted {
			t.Fatalf("Parse(%q) = %v, %d, %d, not %v, %d, %d", text, got, n, bad, want, number, wanted)
		}
		refused[bad]++
		if bad == api.OK {
			taken++
			if again, n, bad := script.Print(got); again != text || n != 0 || bad != api.OK {
				t.Fatalf("Print(%v) = %q, %d, %d, not %q", got, again, n, bad, text)
			}
		} else if len(got) > 0 {
			t.Fatalf("beside the error %d of %q stand commands", bad, text)
		}
	}
	if taken < 300 || refused[api.ErrLine] < 300 || refused[api.ErrShort] < 300 || refused[api.ErrWord] < 100 {
		t.Errorf("%d were taken; refused: %v", taken, refused)
	}
}

func TestRule4Memory(t *testing.T) {
	c := api.Command{Verb: "crash", Nums: append([]int{1, 2}, 7, 7)[:2]}
	script.Line(c)
	script.Print([]api.Command{c})
	if !slices.Equal(c.Nums[:4], []int{1, 2, 7, 7}) {
		t.Errorf("the numbers are %v", c.Nums[:4])
	}
	p := api.Command{Verb: "put", Raw: append([]byte{1, 2}, 7, 7)[:2]}
	script.Line(p)
	cs := append([]api.Command{c, p}, api.Command{Verb: "sync"})[:2]
	text, _, _ := script.Print(cs)
	if !slices.Equal(p.Raw[:4], []byte{1, 2, 7, 7}) || !sameAll(cs[:3], []api.Command{c, p, {Verb: "sync"}}) {
		t.Errorf("the commands are %v", cs[:3])
	}
	clear(c.Nums[:4])
	clear(p.Raw[:4])
	if text != "crash 1 2\nput 0102\n" {
		t.Errorf("Print has kept its argument: %q", text)
	}
	// No two lists of an answer share memory.
	got, _, _ := script.Parse("crash 1 2\nput 0102\ncrash 3 4\nput 0304\nappend 5 place order=7\n")
	clear(got[0].Nums[:cap(got[0].Nums)])
	clear(got[1].Raw[:cap(got[1].Raw)])
	if !slices.Equal(got[2].Nums, []int{3, 4}) || !slices.Equal(got[3].Raw, []byte{3, 4}) || !slices.Equal(got[4].Nums, []int{5}) {
		t.Errorf("the lists share memory: %v", got)
	}
	if again, _, _ := script.Parse(text); !slices.Equal(again[0].Nums, []int{1, 2}) || !slices.Equal(again[1].Raw, []byte{1, 2}) {
		t.Errorf("Parse gives out what it keeps: %v", again)
	}
}

// Whatever is given, the calls end, and soon.
func TestRule1WhateverIsGiven(t *testing.T) {
	r := rand.New(rand.NewSource(1))
	pieces := []string{"sync", "append", "put", "open", "crash", "load", " ", " ", "\n", "\n", "5", "0", "-1", "08", "place", "order=7", "0a", "\x00", "\xff", "é"}
	for range 40000 {
		var text string
		for range r.Intn(12) {
			text += pieces[r.Intn(len(pieces))]
		}
		cs, n, bad := script.Parse(text)
		if want, number, wanted := modelParse(text); !sameAll(cs, want) || n != number || bad != wanted {
			t.Fatalf("Parse(%q) = %v, %d, %d, not %v, %d, %d", text, cs, n, bad, want, number, wanted)
		}
		c, bad := script.Command(text)
		if want, wanted := modelCommand(text); !same(c, want) || bad != wanted {
			t.Fatalf("Command(%q) = %v, %d, not %v, %d", text, c, bad, want, wanted)
		}
	}
	blanks := strings.Repeat(" ", 1<<24)
	for _, line := range []string{blanks, "sync" + blanks, "crash" + blanks, "append" + blanks, "append 5 place" + blanks, "put" + blanks, "put " + strings.Repeat("g", 1<<24), "load " + strings.Repeat("9", 1<<24), strings.Repeat("x", 1<<24)} {
		if c, bad := script.Command(line); !isZero(c) || bad == api.OK {
			t.Errorf("Command(%.30q..): %d", line, bad)
		}
	}
}
