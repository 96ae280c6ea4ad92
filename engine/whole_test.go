package engine_test

import (
	"fmt"
	"math/rand"
	"slices"
	"strconv"
	"strings"
	"testing"

	"daybook/api"
	"daybook/engine"
)

// The ten examples of the whole.
func TestWholeExamples(t *testing.T) {
	first := []string{"open 4 8", "append 1 place order=7", "append 1 add order=7 item=3 qty=2 price=5", "load 7"}
	want := []string{"ok 0", "ok 1", "ok 2", "order 7 open events=2 who=old 3:500*2-0"}
	told(t, lines(first...), want...)
	first = append(first, "replay 1")
	want = append(want, "1 place order=7 who=old", "2 add order=7 item=3 qty=2 price=500 who=old", "ok 2")
	told(t, lines(first...), want...)
	first = append(first, "snapshot", "compact", "replay 2", "load 7")
	want = append(want, "ok", "ok 1", "error compacted", "order 7 open events=2 who=old 3:500*2-0")
	told(t, lines(first...), want...)
	told(t, lines("append 6 place order=7"), "line 1: version")
	pending := []string{"open 4 8", "append 5 place order=7", "sync", "append 5 place order=8"}
	for crash, last := range map[string]string{"crash": "ok 1", "crash 0 25": "ok 2", "crash 0 24": "ok 1"} {
		told(t, lines(append(slices.Clone(pending), crash, "open 4 8")...), "ok 0", "ok 1", "ok", "ok 2", "ok", last)
	}
	told(t, lines("open 4 8", "fuse 1", "append 5 place order=7", "sync", "crash 0 25", "open 4 8"), "ok 0", "ok", "error power off", "error closed", "ok", "ok 1")
	told(t, lines("disk 51", "open 1 1", "append 5 place order=1", "list"), "ok", "ok 0", "error disk full", "manifest 29 29", "seg-000001 22 22", "ok 2")
	g := prepared(t, "open 4 8", "append 5 place order=7", "close")
	turn(t, g, "seg-000001", 29)
	answers(t, g, "open 4 8", "ok 0")
	for at := range 29 {
		g := prepared(t, "open 4 8", "append 5 place order=7", "close")
		turn(t, g, "manifest", at)
		answers(t, g, "open 4 8", "error corrupt")
	}
}

// turn changes a byte of a file.
func turn(t *testing.T, g *engine.Engine, name string, at int) {
	t.Helper()
	fs := g.Disk()
	size, _ := fs.Size(name)
	b, bad := fs.Read(name, at, size-at)
	if bad != api.OK {
		t.Fatalf("Read: %d", bad)
	}
	b[0] ^= 1
	if fs.Cut(name, at) != api.OK || fs.Append(name, b) != api.OK || fs.Sync(name) != api.OK {
		t.Fatalf("%s can't be changed", name)
	}
}

// shop is what a script's answers must be those of: a plain list, of which all was pending that wasn't made safe.
type shop struct {
	list
	safe  int
	snap  int // up to where the last snapshot went
	floor int // no more than that was compacted away
}

// tell holds an answer of a journal that is open to the list.
func (s *shop) tell(t *testing.T, line string, got []string) {
	t.Helper()
	verb, rest, _ := strings.Cut(line, " ")
	n, _ := strconv.Atoi(rest)
	var want []string
	switch {
	case verb == "orders":
		want = []string{s.orders()}
	case verb == "load" && n >= 1:
		want = []string{s.load(n)}
	case verb == "replay" && n >= 1 && n <= len(s.list)+1:
		want = s.replay(n)
		if n <= s.floor && slices.Equal(got, []string{"error compacted"}) {
			return
		}
	default:
		want = []string{"error argument"}
	}
	if !slices.Equal(got, want) {
		t.Fatalf("%s:\n%q\nnot\n%q", line, got, want)
	}
}

// went takes in that a command went well which keeps the journal safe or small.
func (s *shop) went(verb string) {
	switch verb {
	case "compact":
		s.floor = s.snap
		return
	case "snapshot":
		s.snap = len(s.list)
	}
	s.safe = len(s.list)
}

// Scripts without losses of power: every answer is that of the plain list.
func TestP1ScriptsOfAPlainList(t *testing.T) {
	r := rand.New(rand.NewSource(1))
	count := map[string]int{}
	for range 150 {
		g, s := engine.New(), &shop{}
		var text string
		var all []string
		give := func(line string) []string {
			got := do(t, g, line)
			text += line + "\n"
			all = append(all, got...)
			return got
		}
		give(fmt.Sprint("disk ", 300+r.Intn(4000)))
		give(fmt.Sprint("open ", 1+r.Intn(4), " ", 1+r.Intn(5)))
		for range 100 {
			line := []string{"sync", "rotate", "snapshot", "compact", "close", "orders", fmt.Sprint("load ", r.Intn(8)), fmt.Sprint("replay ", r.Intn(len(s.list)+4))}[r.Intn(8)]
			v, e := someEvent(r)
			if r.Intn(2) == 0 {
				line = lineOf(r, v, e)
			}
			verb, _, _ := strings.Cut(line, " ")
			got := give(line)
			count[verb+" "+got[0]]++
			switch verb {
			case "append", "put":
				if got[0] != "error disk full" {
					s.list = append(s.list, broughtUp(v, e))
					if want := fmt.Sprint("ok ", len(s.list)); got[0] != want {
						t.Fatalf("%s: %q, not %q", line, got, want)
					}
				}
			case "orders", "load", "replay":
				s.tell(t, line, got)
			default:
				if !strings.HasPrefix(got[0], "error") {
					s.went(verb)
				}
			}
			if verb == "close" {
				if got := give(fmt.Sprint("open ", 1+r.Intn(4), " ", 1+r.Intn(5))); got[0] != fmt.Sprint("ok ", len(s.list)) {
					t.Fatalf("open: %q; there are %d events", got, len(s.list))
				}
			}
		}
		if got := engine.Run(text); !slices.Equal(got, all) {
			t.Fatalf("Run(%q)\n%q\nnot\n%q", text, got, all)
		}
	}
	for _, what := range []string{"append error disk full", "put error disk full", "replay error compacted", "replay error argument", "snapshot ok", "snapshot error empty", "snapshot error disk full", "compact ok 1", "compact error no snapshot", "rotate ok", "close ok"} {
		if count[what] < 10 {
			t.Errorf("%q was told %d times", what, count[what])
		}
	}
}

// Whenever the power fails, and whatever is kept: the history is the safe events and a beginning of the pending ones.
func TestP2ScriptsWithLossesOfPower(t *testing.T) {
	r := rand.New(rand.NewSource(2))
	lost, kept := 0, 0
	for range 300 {
		g, s := prepared(t, fmt.Sprint("disk ", 1000+r.Intn(4000))), &shop{}
		for range 8 {
			live(t, r, g, s)
			crash := "crash"
			for range r.Intn(12) {
				crash += fmt.Sprint(" ", r.Intn(3)*r.Intn(60))
			}
			answers(t, g, crash, "ok")
			got := do(t, g, "open 2 3")
			n, err := strconv.Atoi(strings.TrimPrefix(got[0], "ok "))
			if err != nil || n < s.safe || n > len(s.list) {
				t.Fatalf("open: %q; %d are safe of %d", got, s.safe, len(s.list))
			}
			lost += len(s.list) - n
			kept += n - s.safe
			s.list, s.safe, s.snap, s.floor = s.list[:n], n, min(s.snap, n), min(s.floor, n)
			s.tell(t, "orders", do(t, g, "orders"))
			s.tell(t, "replay 1", do(t, g, "replay 1"))
			s.tell(t, fmt.Sprint("replay ", s.floor+1), do(t, g, fmt.Sprint("replay ", s.floor+1)))
			for id := 1; id <= 6; id++ {
				line := fmt.Sprint("load ", id)
				s.tell(t, line, do(t, g, line))
			}
			answers(t, g, "audit", "ok 0")
			answers(t, g, "close", "ok")
		}
	}
	if lost < 300 || kept < 300 {
		t.Errorf("%d events were lost, %d pending ones kept", lost, kept)
	}
}

// live gives an engine lines until the power fails, or for a while.
func live(t *testing.T, r *rand.Rand, g *engine.Engine, s *shop) {
	t.Helper()
	if r.Intn(4) > 0 {
		answers(t, g, fmt.Sprint("fuse ", 1+r.Intn(60)), "ok")
	}
	do(t, g, fmt.Sprint("open ", 1+r.Intn(4), " ", 1+r.Intn(5))) // the power may fail in it
	for range 5 + r.Intn(30) {
		line := []string{"sync", "rotate", "snapshot", "compact", "close"}[r.Intn(5)]
		v, e := someEvent(r)
		if r.Intn(4) > 0 {
			line = lineOf(r, v, e)
		}
		got := do(t, g, line)[0]
		verb, _, _ := strings.Cut(line, " ")
		event := verb == "append" || verb == "put"
		switch {
		case got == "error closed":
			return
		case event && (got == "error power off" || strings.HasPrefix(got, "ok")):
			s.list = append(s.list, broughtUp(v, e)) // the one within which the power failed may be there
		case got == "error power off": // it may have been carried out, but for its last steps
			safe := s.safe
			s.went(verb)
			s.safe = safe
		case !event && strings.HasPrefix(got, "ok"):
			s.went(verb)
		}
	}
}

// Another hand changes the disk beneath a journal that is open: of its answers nothing is promised but that they come.
func TestRule1AnotherHand(t *testing.T) {
	r := rand.New(rand.NewSource(9))
	for range 600 {
		g := prepared(t, "disk 6000", fmt.Sprint("open ", 1+r.Intn(4), " ", 1+r.Intn(4)))
		for range 60 {
			if r.Intn(4) == 0 {
				meddle(r, g)
			}
			line := someLine(r)
			if got := do(t, g, line); len(got) == 0 || slices.Contains(got, "") {
				t.Fatalf("%s: %q", line, got)
			}
		}
	}
}

// meddle changes a file of an engine's disk, or all of them.
func meddle(r *rand.Rand, g *engine.Engine) {
	fs := g.Disk()
	files := fs.Image()
	if len(files) == 0 {
		return
	}
	f, other := files[r.Intn(len(files))], files[r.Intn(len(files))]
	switch at := r.Intn(len(f.Data) + 1); r.Intn(7) {
	case 0:
		fs.Remove(f.Name)
	case 1:
		fs.Rename(f.Name, other.Name)
	case 2:
		fs.Cut(f.Name, at)
	case 3:
		fs.Append(f.Name, other.Data)
	case 4:
		if at < len(f.Data) {
			f.Data[at] ^= 1 << r.Intn(8)
			fs.Cut(f.Name, at)
			fs.Append(f.Name, f.Data[at:])
		}
	case 5:
		fs.Create([]string{"alien", "manifest.tmp", "seg-000002", "seg-000003", "book-000002", "book-000005"}[r.Intn(6)])
	case 6:
		fs.Restart([]int{r.Intn(60), r.Intn(60), r.Intn(60)})
	}
}
