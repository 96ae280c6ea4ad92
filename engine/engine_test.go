package engine_test

import (
	"fmt"
	"math/rand"
	"reflect"
	"slices"
	"strings"
	"testing"

	"daybook/api"
	"daybook/engine"
	"daybook/fault"
	"daybook/script"
	"daybook/simfs"
)

// told holds a script's answers.
func told(t *testing.T, text string, want ...string) {
	t.Helper()
	if got := engine.Run(text); !slices.Equal(got, want) {
		t.Errorf("Run(%q)\n%q\nnot\n%q", text, got, want)
	}
}

// lines is a script of lines.
func lines(ls ...string) string { return strings.Join(ls, "\n") + "\n" }

func TestP26_1Refused(t *testing.T) {
	place := api.Event{Kind: api.Place, Order: 7}
	for _, x := range []struct {
		c    api.Command
		want string
	}{
		{api.Command{}, "error line"},
		{api.Command{Verb: "x"}, "error line"},
		{api.Command{Verb: "sync "}, "error line"},
		{api.Command{Verb: "load"}, "error line"},
		{api.Command{Verb: "open", Nums: []int{1}}, "error line"},
		{api.Command{Verb: "crash", Nums: make([]int, 65)}, "error line"},
		{api.Command{Verb: "disk", Nums: []int{1}, Raw: []byte{1}}, "error field"},
		{api.Command{Verb: "sync", Event: place}, "error field"},
		{api.Command{Verb: "put"}, "error word"},
		{api.Command{Verb: "append", Nums: []int{6}, Event: place}, "error version"},
		{api.Command{Verb: "append", Nums: []int{5}}, "error kind"},
		{api.Command{Verb: "append", Nums: []int{5}, Event: api.Event{Kind: api.Place}}, "error field"},
		{api.Command{Verb: "append", Nums: []int{5}, Event: api.Event{Kind: api.Place, Order: 1, Who: strings.Repeat("a", 17)}}, "error too big"},
		{api.Command{Verb: "open", Nums: []int{0, 1}}, "error argument"},
		{api.Command{Verb: "open", Nums: []int{65, 1}}, "error argument"},
		{api.Command{Verb: "open", Nums: []int{1, 513}}, "error argument"},
		{api.Command{Verb: "open", Nums: []int{-1, -1}}, "error argument"},
		{api.Command{Verb: "append", Nums: []int{5}, Event: place}, "error closed"},
	} {
		g := engine.New()
		if got := g.Do(x.c); !slices.Equal(got, []string{x.want}) {
			t.Errorf("Do(%v) = %q, not %q", x.c, got, x.want)
		}
		if len(g.Disk().Image()) > 0 || g.Disk().Steps() > 0 {
			t.Errorf("Do(%v) has changed the disk", x.c)
		}
		// An error of Line is ahead of all that the engine stands like, and is told by it alone.
		g = prepared(t, "open 4 8")
		if _, bad := script.Line(x.c); bad != api.OK {
			if got := g.Do(x.c); !slices.Equal(got, []string{"error " + fault.Name(bad)}) {
				t.Errorf("with a journal: Do(%v) = %q", x.c, got)
			}
			answers(t, g, "err", "none")
		}
	}
}

func TestP26_1And3NilEngine(t *testing.T) {
	var g *engine.Engine
	for _, verb := range script.Verbs() {
		for _, c := range []api.Command{{Verb: verb}, {Verb: verb, Nums: []int{1}}, {Verb: verb, Nums: []int{1, 1}}} {
			if got := g.Do(c); !slices.Equal(got, []string{"error argument"}) {
				t.Errorf("Do(%v) = %q", c, got)
			}
		}
	}
	if got := g.Do(api.Command{Verb: "x"}); !slices.Equal(got, []string{"error argument"}) {
		t.Errorf("no verb: %q", got)
	}
	if g.Disk() != nil {
		t.Error("a nil engine has a disk")
	}
}

// An engine that New hasn't made has no disk until it gets one.
func TestRule1NotMadeByNew(t *testing.T) {
	g := new(engine.Engine)
	if g.Disk() != nil {
		t.Error("it has a disk")
	}
	for _, line := range []string{"list", "audit", "fuse 1", "crash 1 2", "open 4 8", "sync", "append 5 place order=7", "load 7", "view", "err"} {
		if got := do(t, g, line); len(got) != 1 {
			t.Errorf("%s: %q", line, got)
		}
	}
	answers(t, g, "disk 100", "ok")
	answers(t, g, "open 4 8", "ok 0")
}

func TestP26_2WithoutAJournal(t *testing.T) {
	all := map[string]string{
		"append": "append 5 place order=7", "put": "put 0502010407", "load": "load 7", "replay": "replay 1",
		"disk": "disk 100", "fuse": "fuse 9", "crash": "crash 1", "open": "open 4 8",
	}
	closed := strings.Fields("append put sync rotate snapshot close compact load replay orders view err")
	for _, verb := range script.Verbs() {
		line := all[verb]
		if line == "" {
			line = verb
		}
		want := "ok"
		switch {
		case slices.Contains(closed, verb):
			want = "error closed"
		case verb == "open" || verb == "list" || verb == "audit":
			want = "ok 0"
		}
		answers(t, engine.New(), line, want)
		// A disk and a crash take the journal away, an error that it told too.
		for _, away := range []string{"disk 1000", "crash"} {
			g := prepared(t, "open 4 8")
			answers(t, g, "load 0", "error argument")
			answers(t, g, away, "ok")
			if want == "error closed" {
				answers(t, g, line, want)
			}
		}
	}
}

func TestP26_2Disk(t *testing.T) {
	g := engine.New()
	fs := g.Disk()
	if fs == nil || fs.Free() != api.MaxRoom || len(fs.Image()) != 0 || fs.Down() || fs.Steps() != 0 {
		t.Error("a new engine's disk isn't new")
	}
	for _, x := range []struct{ n, free int }{{0, 0}, {-5, 0}, {51, 51}, {1 << 26, 1 << 26}, {1<<26 + 1, 1 << 26}} {
		g := prepared(t, "open 4 8", "append 5 place order=7", "fuse 1")
		old := g.Disk()
		answers(t, g, fmt.Sprint("disk ", x.n), "ok")
		if g.Disk() == old || g.Disk().Free() != x.free || len(g.Disk().Image()) != 0 || g.Disk().Steps() != 0 {
			t.Errorf("disk %d: %d are free", x.n, g.Disk().Free())
		}
		answers(t, g, "append 5 place order=7", "error closed")
		if x.free == 0 {
			answers(t, g, "open 4 8", "error disk full")
		} else {
			answers(t, g, "open 4 8", "ok 0") // and the fuse is that of the old disk
		}
	}
	told(t, lines("disk 50", "open 1 1", "list", "disk 51", "open 1 1"), "ok", "error disk full", "ok 0", "ok", "ok 0")
}

func TestP26_2FuseAndCrash(t *testing.T) {
	// The fuse goes by the disk's steps; one below 1 takes it away.
	told(t, lines("open 4 8", "fuse 2", "sync", "sync", "open 4 8"), "ok 0", "ok", "ok", "error power off", "error power off")
	told(t, lines("open 4 8", "fuse 1", "fuse 0", "sync", "fuse 1", "fuse -3", "sync", "fuse 1", "fuse 2", "sync", "sync"), "ok 0", "ok", "ok", "ok", "ok", "ok", "ok", "ok", "ok", "ok", "error power off")
	told(t, lines("fuse 1", "open 4 8", "list", "crash", "open 4 8", "list"), "ok", "error power off", "ok 0", "ok", "ok 0", "manifest 29 29", "seg-000001 22 22", "ok 2")
	told(t, lines("fuse 3", "open 4 8", "list", "audit", "crash 7", "list", "open 4 8"), "ok", "error power off", "seg-000001 22 0", "ok 1", "manifest at 0: no file", "ok 1", "ok", "seg-000001 7 7", "ok 1", "ok 0")
	// A crash with its numbers; the power needn't be off.
	base := []string{"open 4 8", "append 5 place order=7", "sync", "append 5 place order=8", "append 5 place order=9"}
	begin := []string{"ok 0", "ok 1", "ok", "ok 2", "ok 3", "ok"}
	for _, x := range []struct {
		crash string
		size  int
		last  int
	}{
		{"crash", 47, 1}, {"crash 50", 47, 1}, {"crash 0 0", 47, 1}, {"crash 0 -1", 47, 1}, {"crash 0 24", 71, 1}, {"crash 0 25", 72, 2}, {"crash 0 26", 73, 2}, {"crash 0 50", 97, 3}, {"crash 0 9223372036854775807", 97, 3}, {"crash -9223372036854775808 49 1", 96, 2},
		{"crash 0 50" + strings.Repeat(" 1", 62), 97, 3},
	} {
		all := append(slices.Clone(base), x.crash, "list", "open 4 8")
		want := append(slices.Clone(begin), "manifest 29 29", fmt.Sprintf("seg-000001 %d %d", x.size, x.size), "ok 2", fmt.Sprint("ok ", x.last))
		told(t, lines(all...), want...)
	}
	// A crash takes the fuse away.
	told(t, lines("open 4 8", "fuse 1", "crash", "open 4 8", "sync"), "ok 0", "ok", "ok", "ok 0", "ok")
}

func TestP26_2Open(t *testing.T) {
	g := prepared(t, "open 4 8")
	answers(t, g, "open 4 8", "error exists")
	answers(t, g, "open 0 0", "error exists") // ahead of Open's error
	answers(t, g, "append 5 place order=7", "ok 1")
	answers(t, g, "load 0", "error argument")
	answers(t, g, "open 4 8", "error exists")
	answers(t, g, "close", "ok")
	// Closed, it stays the engine's until an open that goes well.
	answers(t, g, "append 5 place order=7", "error closed")
	answers(t, g, "err", "journal: append: closed")
	answers(t, g, "open 0 8", "error argument")
	answers(t, g, "open 4 0", "error argument")
	answers(t, g, "err", "journal: append: closed")
	answers(t, g, "sync", "error closed")
	answers(t, g, "err", "journal: sync: closed")
	answers(t, g, "open 2 2", "ok 1")
	answers(t, g, "err", "none")
	answers(t, g, "append 5 place order=8", "ok 2")
	answers(t, g, "append 5 place order=9", "ok 3")
	answers(t, g, "list", "manifest 33 33", "seg-000001 98 98", "seg-000002 47 22", "ok 3") // the stride and the events are those of this open
	// One that the power has closed stays too.
	answers(t, g, "fuse 1", "ok")
	answers(t, g, "rotate", "error power off")
	answers(t, g, "err", "journal: rotate: power off")
	answers(t, g, "open 2 2", "error power off")
	answers(t, g, "err", "journal: rotate: power off")
	// What no store lies on is refused, and stays as it is.
	h := prepared(t, "open 4 8", "close")
	h.Disk().Cut("manifest", 28)
	before := h.Disk().Image()
	answers(t, h, "open 4 8", "error corrupt")
	if !reflect.DeepEqual(h.Disk().Image(), before) {
		t.Error("the disk was changed")
	}
}

func TestP26_2TheStrideCounts(t *testing.T) {
	// With a stride of 1 the footer has a mark for each event, with one of 64 the first alone.
	one := engine.Run(lines("open 1 8", "append 5 place order=1", "append 5 place order=2", "rotate", "list"))
	all := engine.Run(lines("open 64 8", "append 5 place order=1", "append 5 place order=2", "rotate", "list"))
	if slices.Equal(one, all) || len(one) != 8 || len(all) != 8 {
		t.Errorf("%q\n%q", one, all)
	}
}

func TestP26_2EachCommand(t *testing.T) {
	told(t, lines("open 2 3",
		"append 1 place order=7", "append 1 add order=7 item=3 qty=2 price=5", "put 0502010409", "append 5 place order=2 tax=1000 note=6869",
		"put 05", "err", "sync", "err"),
		"ok 0", "ok 1", "ok 2", "ok 3", "ok 4", "error kind", "journal: put: kind", "ok", "journal: put: kind")
	g := prepared(t, "open 2 3", "append 1 place order=7", "append 1 add order=7 item=3 qty=2 price=5", "put 0502010409", "append 5 place order=2 tax=1000 who=ann note=6869")
	answers(t, g, "replay 1", "1 place order=7 who=old", "2 add order=7 item=3 qty=2 price=500 who=old", "3 place order=9", "4 place order=2 tax=1000 who=ann note=6869", "ok 4")
	answers(t, g, "replay 4", "4 place order=2 tax=1000 who=ann note=6869", "ok 1")
	answers(t, g, "replay 5", "ok 0")
	answers(t, g, "replay 6", "error argument")
	answers(t, g, "err", "journal: replay at 6: argument")
	answers(t, g, "replay 0", "error argument")
	answers(t, g, "orders", "ok 2 7 9")
	answers(t, g, "load 7", "order 7 open events=2 who=old 3:500*2-0")
	answers(t, g, "load 8", "order 8 none")
	answers(t, g, "load 1099511627776", "order 1099511627776 none")
	answers(t, g, "load 1099511627777", "error argument")
	answers(t, g, "err", "journal: load at 1099511627777: argument")
	answers(t, g, "load -1", "error argument")
	answers(t, g, "err", "journal: load: argument") // a place below 0 is none
	answers(t, g, "view", "orders=3 status=0,3,0,0,0,0 events=4 refused=0 paid=0 refunded=0 pieces=2 shipped=0")
	answers(t, g, "compact", "error no snapshot")
	answers(t, g, "err", "journal: compact: no snapshot")
	answers(t, g, "snapshot", "ok")
	answers(t, g, "snapshot", "error empty")
	answers(t, g, "err", "journal: snapshot: empty")
	answers(t, g, "append 5 cancel order=9", "ok 5")
	answers(t, g, "compact", "ok 1")
	answers(t, g, "compact", "ok 0")
	answers(t, g, "replay 3", "error compacted")
	answers(t, g, "replay 4", "4 place order=2 tax=1000 who=ann note=6869", "5 cancel order=9", "ok 2")
	answers(t, g, "rotate", "ok")
	answers(t, g, "rotate", "error empty")
	answers(t, g, "err", "journal: rotate: empty")
	answers(t, g, "list", "book-000003 140 140", "manifest 33 33", "seg-000002 110 110", "seg-000004 22 22", "ok 4")
	answers(t, g, "audit", "ok 0")
	answers(t, g, "sync", "ok")
	answers(t, g, "orders", "ok 2 7 9")
	answers(t, g, "close", "ok")
	answers(t, g, "close", "error closed")
	answers(t, g, "err", "journal: close: closed")
	answers(t, g, "orders", "error closed")
	answers(t, g, "err", "journal: orders: closed")
	answers(t, g, "audit", "ok 0")
	told(t, lines("open 4 8", "orders", "view", "replay 1", "load 1", "rotate", "snapshot"),
		"ok 0", "ok", "orders=0 status=0,0,0,0,0,0 events=0 refused=0 paid=0 refunded=0 pieces=0 shipped=0", "ok 0", "order 1 none", "error empty", "error empty")
}

func TestP26_2View(t *testing.T) {
	told(t, lines("open 4 8",
		"append 5 place order=1", "append 5 add order=1 item=1 qty=5 price=10", "append 5 pay order=1 price=50", "append 5 ship order=1 item=1 qty=2",
		"append 5 place order=2", "append 5 hold order=2",
		"append 5 place order=3", "append 5 cancel order=3",
		"append 5 ship order=4", "append 5 place order=5",
		"append 5 place order=6", "append 5 add order=6 item=1 qty=1 price=7", "append 5 pay order=6 price=7", "append 5 clear order=6", "append 5 refund order=6 price=3",
		"view", "snapshot", "view", "compact", "view", "append 5 pay order=9", "view"),
		"ok 0", "ok 1", "ok 2", "ok 3", "ok 4", "ok 5", "ok 6", "ok 7", "ok 8", "ok 9", "ok 10", "ok 11", "ok 12", "ok 13", "ok 14", "ok 15",
		"orders=6 status=1,1,1,1,1,1 events=15 refused=1 paid=57 refunded=3 pieces=6 shipped=3", "ok",
		"orders=6 status=1,1,1,1,1,1 events=15 refused=1 paid=57 refunded=3 pieces=6 shipped=3", "ok 2",
		"orders=6 status=1,1,1,1,1,1 events=15 refused=1 paid=57 refunded=3 pieces=6 shipped=3", "ok 16",
		"orders=7 status=2,1,1,1,1,1 events=16 refused=2 paid=57 refunded=3 pieces=6 shipped=3")
	// It leaves the journal's Err as it is, whether it is refused or not.
	g := prepared(t, "open 4 8")
	answers(t, g, "load 0", "error argument")
	answers(t, g, "view", "orders=0 status=0,0,0,0,0,0 events=0 refused=0 paid=0 refunded=0 pieces=0 shipped=0")
	answers(t, g, "err", "journal: load at 0: argument")
	answers(t, g, "close", "ok")
	answers(t, g, "view", "error closed")
	answers(t, g, "err", "journal: load at 0: argument")
}

func TestP26_2ViewOfWhatIsCorrupt(t *testing.T) {
	g := prepared(t, "open 1 1", "append 5 place order=7", "append 5 place order=8")
	b, _ := g.Disk().Read("seg-000001", 0, 47)
	b[45] ^= 1
	size, _ := g.Disk().Size("seg-000001")
	foot, _ := g.Disk().Read("seg-000001", 47, size-47)
	g.Disk().Cut("seg-000001", 0)
	g.Disk().Append("seg-000001", append(b, foot...))
	answers(t, g, "audit", "seg-000001 at 22: disk full", "seg-000001 at 22: sum", "ok 2")
	answers(t, g, "view", "error corrupt")
	answers(t, g, "err", "none")
	answers(t, g, "orders", "error corrupt")
	answers(t, g, "err", "journal: orders: corrupt")
	answers(t, g, "load 8", "error corrupt")
	answers(t, g, "replay 2", "2 place order=8", "ok 1")
	answers(t, g, "snapshot", "error corrupt")
}

func TestP26_2ListAndAudit(t *testing.T) {
	g := prepared(t, "open 4 8", "append 5 place order=7")
	answers(t, g, "list", "manifest 29 29", "seg-000001 47 22", "ok 2")
	fs := g.Disk()
	fs.Create("seg-000009")
	fs.Append("seg-000009", []byte("abc"))
	fs.Create("alien")
	answers(t, g, "list", "alien 0 0", "manifest 29 29", "seg-000001 47 22", "seg-000009 3 0", "ok 4")
	answers(t, g, "audit", "seg-000009 at 0: exists", "seg-000009 at 0: header", "ok 2")
	// With the power off too.
	answers(t, g, "fuse 1", "ok")
	answers(t, g, "append 5 place order=8", "error power off")
	answers(t, g, "list", "alien 0 0", "manifest 29 29", "seg-000001 72 22", "seg-000009 3 0", "ok 4")
	answers(t, g, "audit", "seg-000009 at 0: exists", "seg-000009 at 0: header", "ok 2")
	answers(t, g, "crash", "ok")
	answers(t, g, "open 4 8", "ok 0")
	answers(t, g, "audit", "ok 0")
	answers(t, g, "list", "alien 0 0", "manifest 29 29", "seg-000001 22 22", "ok 3")
	fs.Cut("manifest", 3)
	answers(t, g, "audit", "manifest at 0: manifest", "ok 1")
	fs.Remove("manifest")
	answers(t, g, "audit", "manifest at 0: no file", "ok 1")
}

func TestP26_3Disk(t *testing.T) {
	g := engine.New()
	fs := g.Disk()
	for _, line := range []string{"open 4 8", "append 5 place order=7", "close", "crash", "open 4 8", "snapshot", "list", "fuse 3"} {
		do(t, g, line)
		if g.Disk() != fs {
			t.Errorf("%s: it is another disk", line)
		}
	}
	// The very one: what is done to it the engine sees, and the other way round.
	if _, bad := fs.Size("book-000002"); bad != api.OK {
		t.Errorf("the book isn't there: %d", bad)
	}
	fs.Create("alien")
	if got := do(t, g, "list"); !slices.Contains(got, "alien 0 0") {
		t.Errorf("list: %q", got)
	}
	answers(t, g, "disk 100", "ok")
	if g.Disk() == fs || g.Disk() == nil {
		t.Error("a disk isn't a new one")
	}
}

func TestP26_4Run(t *testing.T) {
	told(t, "")
	told(t, "sync\n", "error closed")
	told(t, "sync", "line 1: ends early")
	told(t, "x\n", "line 1: line")
	told(t, "\n", "line 1: line")
	told(t, "append 6 place order=7\n", "line 1: version")
	told(t, "sync\nload 08\n", "line 2: word")
	told(t, "sync\nsync\nappend 5 place", "line 3: ends early")
	told(t, "sync\nappend 5 place\n", "line 2: field")
	told(t, strings.Repeat("sync\n", 401), "line 401: lines")
	told(t, strings.Repeat("x", 65537), "line 0: lines")
	told(t, strings.Repeat("sync\n", 399)+"x\n", "line 400: line")
	told(t, strings.Repeat("sync\n", 400), slices.Repeat([]string{"error closed"}, 400)...)
	// Each Run is of a new engine.
	told(t, "open 4 8\nappend 5 place order=7\n", "ok 0", "ok 1")
	told(t, "list\n", "ok 0")
	told(t, "open 4 8\nappend 5 place order=7\n", "ok 0", "ok 1")
}

func TestP26_4Examples(t *testing.T) {
	told(t, "open 4 8\nappend 1 place order=7\nappend 1 add order=7 item=3 qty=2 price=5\nload 7\nload 0\nerr\n",
		"ok 0", "ok 1", "ok 2", "order 7 open events=2 who=old 3:500*2-0", "error argument", "journal: load at 0: argument")
	told(t, "disk 100\nopen 1 1\nlist\nappend 5 place order=1\nappend 5 place order=2\n",
		"ok", "ok 0", "manifest 29 29", "seg-000001 22 22", "ok 2", "ok 1", "error disk full")
}

// At most MaxTold lines are told; what would be more is told by one line, and nothing stands behind it.
func TestP26_4Output(t *testing.T) {
	text := "open 64 512\n" + strings.Repeat("append 5 place order=7\n", 100) // 101 lines
	text += strings.Repeat("replay 1\n", 38)                                  // 38 * 101 lines more: 3939
	whole := text + strings.Repeat("sync\n", 61)
	got := engine.Run(whole)
	if len(got) != 4000 || got[3999] != "ok" || slices.Contains(got, "error output") || !slices.Equal(got, modelRun(whole)) {
		t.Fatalf("%d lines, the last is %q", len(got), got[len(got)-1])
	}
	more := engine.Run(whole + "sync\nsync\nreplay 1\n")
	if len(more) != 4001 || more[4000] != "error output" || !slices.Equal(more[:4000], got) {
		t.Errorf("%d lines, the last is %q", len(more), more[len(more)-1])
	}
	// All of a command's lines are told, or none.
	for _, x := range []struct {
		syncs, from int
		want        int
		last        string
	}{
		{60, 101, 4000, "ok 0"}, {60, 100, 4000, "error output"}, {59, 100, 4000, "ok 1"}, {59, 99, 3999, "error output"}, {0, 1, 3940, "error output"}, {1, 42, 4000, "ok 59"}, {1, 40, 3941, "error output"}, {1, 41, 3941, "error output"},
	} {
		got := engine.Run(text + strings.Repeat("sync\n", x.syncs) + fmt.Sprintf("replay %d\n", x.from))
		if len(got) != x.want || got[len(got)-1] != x.last {
			t.Errorf("%d syncs and replay %d: %d lines, the last is %q", x.syncs, x.from, len(got), got[len(got)-1])
		}
	}
	got = engine.Run(text + "replay 1\nsync\nlist\n")
	if len(got) != 3940 || got[3939] != "error output" {
		t.Errorf("it doesn't end there: %q", got[3939:])
	}
	refused := engine.Run(text + strings.Repeat("load 0\n", 61) + "load 0\n")
	if len(refused) != 4001 || refused[3999] != "error argument" || refused[4000] != "error output" {
		t.Errorf("what is refused counts too: %q", refused[3999:])
	}
}

// The answers of an engine are those of the model, whatever it is given, and its disk is the model's.
func TestP26_2AnyCommands(t *testing.T) {
	r := rand.New(rand.NewSource(26))
	count := map[string]int{}
	for range 700 {
		g, m := engine.New(), newModel()
		if r.Intn(2) == 0 {
			first := command(t, fmt.Sprint("disk ", 100+r.Intn(3000)))
			g.Do(first)
			m.do(first)
		}
		for range 60 {
			line := someLine(r)
			got, want := do(t, g, line), m.do(command(t, line))
			if !slices.Equal(got, want) {
				t.Fatalf("%s:\n%q\nnot\n%q", line, got, want)
			}
			if !sameDisk(g.Disk(), m.fs) {
				t.Fatalf("behind %s the disk is another", line)
			}
			verb, _, _ := strings.Cut(line, " ")
			last := got[len(got)-1]
			if last != "ok" && !strings.HasPrefix(last, "error") {
				last, _, _ = strings.Cut(last, " ")
			}
			count[verb+": "+last]++
		}
	}
	for _, what := range []string{
		"disk: ok", "fuse: ok", "crash: ok", "open: ok", "open: error exists", "open: error argument", "open: error power off", "open: error disk full",
		"append: ok", "append: error closed", "append: error power off", "append: error disk full", "put: ok", "put: error closed", "put: error kind", "put: error version",
		"sync: ok", "sync: error closed", "rotate: ok", "rotate: error empty", "rotate: error closed", "rotate: error power off", "rotate: error disk full",
		"snapshot: ok", "snapshot: error empty", "snapshot: error closed", "snapshot: error power off", "snapshot: error disk full", "compact: ok", "compact: error no snapshot", "compact: error closed", "compact: error power off",
		"close: ok", "close: error closed", "load: order", "load: error argument", "load: error closed", "replay: ok", "replay: error argument", "replay: error closed", "replay: error compacted",
		"orders: ok", "orders: error closed", "view: orders=3", "view: error closed", "err: none", "err: journal:", "err: error closed", "list: ok", "audit: ok",
	} {
		if count[what] < 3 {
			t.Errorf("%q was told %d times", what, count[what])
		}
	}
}

// Whatever the text, Run ends, tells no more than it may, and tells the same each time.
func TestP26_5AnyText(t *testing.T) {
	r := rand.New(rand.NewSource(5))
	taken := 0
	for range 1500 {
		var text string
		for range r.Intn(60) {
			text += someLine(r) + "\n"
		}
		if r.Intn(3) == 0 && text != "" {
			at := r.Intn(len(text))
			text = text[:at] + []string{"", " ", "\n", "x", "\x00", "0"}[r.Intn(6)] + text[at+r.Intn(2):]
		}
		got := engine.Run(text)
		if want := modelRun(text); !slices.Equal(got, want) {
			t.Fatalf("Run(%q)\n%q\nnot\n%q", text, got, want)
		}
		if again := engine.Run(text); !slices.Equal(got, again) {
			t.Fatalf("Run(%q) tells another thing the second time", text)
		}
		if len(got) == 0 || !strings.HasPrefix(got[0], "line") {
			taken++
		}
	}
	if taken < 700 {
		t.Errorf("%d were taken", taken)
	}
	most := "open 1 1\n" + strings.Repeat("append 5 place order=7\n", 200) + strings.Repeat("list\n", 199)
	for _, text := range []string{most, strings.Repeat("\n", 65536), strings.Repeat(" ", 65536), strings.Repeat("\x00", 1<<20), "put " + strings.Repeat("00", 32765) + "\n", "append 5 place" + strings.Repeat(" ", 60000) + "\n"} {
		if got := engine.Run(text); len(got) > 4001 || len(got) == 0 {
			t.Errorf("Run(%.20q..): %d lines", text, len(got))
		}
	}
}

func TestRule4Memory(t *testing.T) {
	g := prepared(t, "open 4 8", "append 5 place order=7")
	put := api.Command{Verb: "put", Raw: append([]byte{5, 2, 1, 4, 8}, 7, 7)[:5]}
	if got := g.Do(put); !slices.Equal(got, []string{"ok 2"}) {
		t.Errorf("put: %q", got)
	}
	if !slices.Equal(put.Raw[:7], []byte{5, 2, 1, 4, 8, 7, 7}) {
		t.Errorf("the bytes were changed: %v", put.Raw[:7])
	}
	clear(put.Raw[:7])
	for _, line := range []string{"sync", "replay 1", "load 7", "orders", "view", "err", "list", "audit"} {
		got := do(t, g, line)
		want := slices.Clone(got)
		clear(got[:cap(got)])
		answers(t, g, line, want...)
	}
	crash := api.Command{Verb: "crash", Nums: append([]int{0, 50}, 7, 7)[:2]}
	g.Do(crash)
	if !slices.Equal(crash.Nums[:4], []int{0, 50, 7, 7}) {
		t.Errorf("the numbers were changed: %v", crash.Nums[:4])
	}
	got := engine.Run("open 4 8\nsync\n")
	clear(got[:cap(got)])
	told(t, "open 4 8\nsync\n", "ok 0", "ok")
}

// Two engines never meet.
func TestRule6TwoEngines(t *testing.T) {
	a, b := engine.New(), engine.New()
	if a.Disk() == b.Disk() {
		t.Fatal("they have one disk")
	}
	answers(t, a, "open 4 8", "ok 0")
	answers(t, a, "append 5 place order=7", "ok 1")
	answers(t, b, "list", "ok 0")
	answers(t, b, "append 5 place order=7", "error closed")
	answers(t, b, "open 4 8", "ok 0")
	answers(t, b, "load 0", "error argument")
	answers(t, a, "err", "none")
	answers(t, b, "fuse 1", "ok")
	answers(t, a, "sync", "ok")
	answers(t, b, "sync", "error power off")
	if fs := simfs.New(10); fs == a.Disk() || fs == b.Disk() {
		t.Error("a new disk is an engine's")
	}
}
