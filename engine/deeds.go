package engine

import (
	"strconv"

	"daybook/api"
	"daybook/journal"
)

// deed is what a command does: it answers lines, or what the command is refused with.
type deed func(g *Engine, c api.Command) ([]string, api.Errno)

// deeds is what the commands do, by their verbs.
func deeds() map[string]deed {
	return map[string]deed{
		"append":   opened((*Engine).add),
		"audit":    (*Engine).audit,
		"close":    opened(plain((*journal.Journal).Close)),
		"compact":  opened(counting((*journal.Journal).Compact)),
		"crash":    (*Engine).crash,
		"disk":     (*Engine).layDisk,
		"err":      opened((*Engine).err),
		"fuse":     (*Engine).fuse,
		"list":     (*Engine).list,
		"load":     opened((*Engine).load),
		"open":     (*Engine).open,
		"orders":   opened((*Engine).orders),
		"put":      opened((*Engine).put),
		"replay":   opened((*Engine).replay),
		"rotate":   opened(plain((*journal.Journal).Rotate)),
		"snapshot": opened(plain((*journal.Journal).Snapshot)),
		"sync":     opened(plain((*journal.Journal).Sync)),
		"view":     opened((*Engine).view),
	}
}

// opened is a deed that wants a journal.
func opened(do deed) deed {
	return func(g *Engine, c api.Command) ([]string, api.Errno) {
		if g.journal == nil {
			return nil, api.ErrClosed
		}
		return do(g, c)
	}
}

// plain is the deed of a journal's call that tells nothing but its error.
func plain(call func(j *journal.Journal) api.Errno) deed {
	return func(g *Engine, c api.Command) ([]string, api.Errno) {
		if bad := call(g.journal); bad != api.OK {
			return nil, bad
		}
		return done(), api.OK
	}
}

// counting is the deed of a journal's call that tells a number.
func counting(call func(j *journal.Journal) (int, api.Errno)) deed {
	return func(g *Engine, c api.Command) ([]string, api.Errno) {
		return numbered(call(g.journal))
	}
}

// numbered is the answer of a call that tells a number.
func numbered(n int, bad api.Errno) ([]string, api.Errno) {
	if bad != api.OK {
		return nil, bad
	}
	return []string{okNumber(n)}, api.OK
}

// counted is lines, and behind them how many they are.
func counted(lines []string) []string { return append(lines, okNumber(len(lines))) }

// wentWell is the answer of what has no other, and the beginning of those that tell a number.
const wentWell = "ok"

func okNumber(n int) string { return wentWell + " " + strconv.Itoa(n) }

func done() []string { return []string{wentWell} }
