package engine

import (
	"strconv"

	"daybook/api"
	"daybook/audit"
	"daybook/journal"
	"daybook/simfs"
)

// layDisk puts an empty disk in the place of the engine's.
func (g *Engine) layDisk(c api.Command) ([]string, api.Errno) {
	g.disk, g.journal = simfs.New(c.Nums[0]), nil
	return done(), api.OK
}

// fuse chooses the step in which the power fails.
func (g *Engine) fuse(c api.Command) ([]string, api.Errno) {
	g.disk.Fuse(c.Nums[0])
	return done(), api.OK
}

// crash is a loss of power, and the power coming back.
func (g *Engine) crash(c api.Command) ([]string, api.Errno) {
	g.disk.Restart(c.Nums)
	g.journal = nil
	return done(), api.OK
}

// open opens a journal on the disk. Where that is refused, the former one stays.
func (g *Engine) open(c api.Command) ([]string, api.Errno) {
	if g.journal != nil && !g.journal.Closed() {
		return nil, api.ErrExists
	}
	j, bad := journal.Open(g.disk, api.Config{Stride: c.Nums[0], SegEvents: c.Nums[1]})
	if bad != api.OK {
		return nil, bad
	}
	g.journal = j
	return numbered(j.Last(), api.OK)
}

// list is the files of the disk.
func (g *Engine) list(c api.Command) ([]string, api.Errno) {
	var lines []string
	for _, f := range g.disk.Image() {
		lines = append(lines, f.Name+" "+strconv.Itoa(len(f.Data))+" "+strconv.Itoa(f.Safe))
	}
	return counted(lines), api.OK
}

// audit is what is wrong with them.
func (g *Engine) audit(c api.Command) ([]string, api.Errno) {
	var lines []string
	for _, f := range audit.Look(g.disk.Image()) {
		lines = append(lines, audit.Words(f))
	}
	return counted(lines), api.OK
}
