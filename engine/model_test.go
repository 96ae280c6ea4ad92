package engine_test

import (
	"fmt"
	"math/rand"
	"reflect"
	"slices"
	"strings"
	"testing"

	"daybook/api"
	"daybook/audit"
	"daybook/dump"
	"daybook/engine"
	"daybook/fault"
	"daybook/journal"
	"daybook/order"
	"daybook/schema"
	"daybook/script"
	"daybook/simfs"
	"daybook/upcast"
	"daybook/upkeep"
	"daybook/view"
)

// model is an engine by the letter of the chapter: one long table.
type model struct {
	fs *simfs.FS
	j  *journal.Journal
}

func newModel() *model { return &model{fs: simfs.New(1 << 26)} }

func (m *model) do(c api.Command) []string {
	if _, bad := script.Line(c); bad != api.OK {
		return no(bad)
	}
	if m.j == nil && slices.Contains(strings.Fields("append put sync rotate snapshot close compact load replay orders view err"), c.Verb) {
		return no(api.ErrClosed)
	}
	switch c.Verb {
	case "disk":
		m.fs, m.j = simfs.New(c.Nums[0]), nil
		return []string{"ok"}
	case "fuse":
		m.fs.Fuse(c.Nums[0])
		return []string{"ok"}
	case "crash":
		m.fs.Restart(c.Nums)
		m.j = nil
		return []string{"ok"}
	case "open":
		if m.j != nil && !m.j.Closed() {
			return no(api.ErrExists)
		}
		j, bad := journal.Open(m.fs, api.Config{Stride: c.Nums[0], SegEvents: c.Nums[1]})
		if bad != api.OK {
			return no(bad)
		}
		m.j = j
		return number(j.Last(), bad)
	case "append":
		return number(m.j.Append(c.Nums[0], c.Event))
	case "put":
		return number(m.j.Put(c.Raw))
	case "sync":
		return plain(m.j.Sync())
	case "rotate":
		return plain(m.j.Rotate())
	case "snapshot":
		return plain(m.j.Snapshot())
	case "close":
		return plain(m.j.Close())
	case "compact":
		return number(m.j.Compact())
	}
	return m.tell(c)
}

// tell is the answers of the commands that change nothing.
func (m *model) tell(c api.Command) []string {
	var lines []string
	switch c.Verb {
	case "load":
		s, bad := m.j.Load(c.Nums[0])
		if bad != api.OK {
			return no(bad)
		}
		line, bad := dump.State(s)
		if bad != api.OK {
			return []string{"no state"}
		}
		return []string{line}
	case "replay":
		rs, bad := m.j.Replay(c.Nums[0])
		if bad != api.OK {
			return no(bad)
		}
		text, bad := dump.Text(rs)
		if bad != api.OK {
			return []string{"no records"}
		}
		return append(strings.FieldsFunc(text, func(r rune) bool { return r == '\n' }), fmt.Sprint("ok ", len(rs)))
	case "orders":
		ids, bad := m.j.Orders()
		if bad != api.OK {
			return no(bad)
		}
		line := "ok"
		for _, id := range ids {
			line += fmt.Sprint(" ", id)
		}
		return []string{line}
	case "view":
		ss, bad := upkeep.States(m.j.Store)
		if bad != api.OK {
			return no(bad)
		}
		v := view.Of(ss)
		b := v.ByStatus
		return []string{fmt.Sprintf("orders=%d status=%d,%d,%d,%d,%d,%d events=%d refused=%d paid=%d refunded=%d pieces=%d shipped=%d", v.Orders, b[0], b[1], b[2], b[3], b[4], b[5], v.Events, v.Refused, v.Paid, v.Refunded, v.Pieces, v.Shipped)}
	case "err":
		if m.j.Err() == nil {
			return []string{"none"}
		}
		return []string{m.j.Err().Error()}
	case "list":
		for _, f := range m.fs.Image() {
			lines = append(lines, fmt.Sprintf("%s %d %d", f.Name, len(f.Data), f.Safe))
		}
	case "audit":
		for _, f := range audit.Look(m.fs.Image()) {
			lines = append(lines, audit.Words(f))
		}
	}
	return append(lines, fmt.Sprint("ok ", len(lines)))
}

func no(bad api.Errno) []string { return []string{"error " + fault.Name(bad)} }

func plain(bad api.Errno) []string {
	if bad != api.OK {
		return no(bad)
	}
	return []string{"ok"}
}

func number(n int, bad api.Errno) []string {
	if bad != api.OK {
		return no(bad)
	}
	return []string{fmt.Sprint("ok ", n)}
}

// modelRun is a script's answers.
func modelRun(text string) []string {
	cs, n, bad := script.Parse(text)
	if bad != api.OK {
		return []string{fmt.Sprintf("line %d: %s", n, fault.Name(bad))}
	}
	m := newModel()
	var told []string
	for _, c := range cs {
		lines := m.do(c)
		if len(told)+len(lines) > 4000 {
			return append(told, "error output")
		}
		told = append(told, lines...)
	}
	return told
}

// command reads a line.
func command(t *testing.T, line string) api.Command {
	t.Helper()
	c, bad := script.Command(line)
	if bad != api.OK {
		t.Fatalf("Command(%q): %d", line, bad)
	}
	return c
}

// do gives an engine a line.
func do(t *testing.T, g *engine.Engine, line string) []string {
	t.Helper()
	return g.Do(command(t, line))
}

// answers holds an engine's answer to a line.
func answers(t *testing.T, g *engine.Engine, line string, want ...string) {
	t.Helper()
	if got := do(t, g, line); !slices.Equal(got, want) {
		t.Errorf("%s:\n%q\nnot\n%q", line, got, want)
	}
}

// prepared is an engine behind some lines, none of which is refused.
func prepared(t *testing.T, lines ...string) *engine.Engine {
	t.Helper()
	g := engine.New()
	for _, line := range lines {
		if got := do(t, g, line); strings.HasPrefix(got[0], "error") {
			t.Fatalf("%s: %q", line, got)
		}
	}
	return g
}

// sameDisk tells whether two disks are alike in all that they show.
func sameDisk(a, b *simfs.FS) bool {
	return a.Down() == b.Down() && a.Free() == b.Free() && a.Steps() == b.Steps() && a.ReadBytes() == b.ReadBytes() && reflect.DeepEqual(a.Image(), b.Image())
}

// someEvent is a right event of some version.
func someEvent(r *rand.Rand) (int, api.Event) {
	v := 1 + r.Intn(5)
	kinds := schema.Kinds(v)
	e := api.Event{Kind: kinds[r.Intn(len(kinds))], Order: 1 + r.Intn(6), Item: r.Intn(4), Qty: r.Intn(5), Price: r.Intn(4)}
	if r.Intn(3) == 0 {
		e.Kind = api.Place
	}
	if v > 3 {
		e.Who = []string{"", "ann", "bob"}[r.Intn(3)]
	}
	if v == 5 {
		e.Note = strings.Repeat("n", r.Intn(2)*r.Intn(100))
	}
	return v, e
}

// broughtUp is an event in version 5.
func broughtUp(v int, e api.Event) api.Event {
	now, bad := upcast.Chain(v, e)
	if bad != api.OK {
		panic(bad)
	}
	return now
}

// lineOf is the line of an append or a put of an event.
func lineOf(r *rand.Rand, v int, e api.Event) string {
	if r.Intn(2) == 0 {
		words, bad := dump.Words(v, e)
		if bad != api.OK {
			panic(bad)
		}
		return fmt.Sprintf("append %d %s", v, words)
	}
	raw, bad := schema.Pack(v, e)
	if bad != api.OK {
		panic(bad)
	}
	return fmt.Sprintf("put %x", raw)
}

// someLine is a line of the language, right or refused later.
func someLine(r *rand.Rand) string {
	switch r.Intn(30) {
	case 0:
		return fmt.Sprint("disk ", []int{-1, 0, 50, 51, 400, 3000}[r.Intn(6)])
	case 1:
		return fmt.Sprint("fuse ", r.Intn(30)-2)
	case 2:
		line := "crash"
		for range r.Intn(9) {
			line += fmt.Sprint(" ", r.Intn(80)-5)
		}
		return line
	case 3, 4, 5:
		return fmt.Sprint("open ", r.Intn(6), " ", r.Intn(6))
	case 6:
		return fmt.Sprintf("put %x", []byte{byte(r.Intn(7)), byte(2 + r.Intn(4)/3), byte(r.Intn(12)), 4, 7})
	case 7:
		return "close"
	case 8, 9, 10:
		return []string{"sync", "rotate", "rotate"}[r.Intn(3)]
	case 11, 12:
		return "snapshot"
	case 13, 14:
		return "compact"
	case 15:
		return fmt.Sprint("load ", []int{0, -1, 1, 2, 3, 4, 5, 6, 99, 1 << 40, 1<<40 + 1}[r.Intn(11)])
	case 16:
		return fmt.Sprint("replay ", r.Intn(20)-2)
	case 17, 18, 19:
		return []string{"orders", "view", "err", "list", "audit"}[r.Intn(5)]
	}
	v, e := someEvent(r)
	return lineOf(r, v, e)
}

// list is the plain list of events, brought up, as which a journal must answer.
type list []api.Event

// load is the answer to a load.
func (l list) load(id int) string {
	line, bad := dump.State(order.Fold(order.Empty(id), l))
	if bad != api.OK {
		panic(bad)
	}
	return line
}

// replay is the answer to a replay that isn't refused.
func (l list) replay(from int) []string {
	var lines []string
	for i := from; i <= len(l); i++ {
		line, bad := dump.Line(api.Record{Seq: i, Event: l[i-1]})
		if bad != api.OK {
			panic(bad)
		}
		lines = append(lines, line)
	}
	return append(lines, fmt.Sprint("ok ", len(lines)))
}

// orders is the answer to orders.
func (l list) orders() string {
	var ids []int
	for _, e := range l {
		ids = append(ids, e.Order)
	}
	slices.Sort(ids)
	line := "ok"
	for _, id := range slices.Compact(ids) {
		line += fmt.Sprint(" ", id)
	}
	return line
}
