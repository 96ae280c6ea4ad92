package upkeep

import (
	"slices"

	"daybook/api"
	"daybook/manifest"
	"daybook/names"
	"daybook/segment"
	"daybook/simfs"
	"daybook/store"
)

// How many files a compaction lays at once beside those that are there: the manifest under its other name, and a segment if none of the old ones stays.
const (
	someGoFiles = 1
	allGoFiles  = 2
)

// Compact takes away the segments whose events are all in the book, and tells how many they were.
func Compact(s *store.Store) (int, api.Errno) {
	if bad := s.Alive(); bad != api.OK {
		return 0, bad
	}
	m := s.Manifest()
	if m.Snap == 0 {
		return 0, api.ErrNoSnap
	}
	count := mayGo(m, s.Last())
	if count == 0 {
		return 0, api.OK
	}
	if bad := takeAway(s, m, count); bad != api.OK {
		return 0, bad
	}
	return count, api.OK
}

// mayGo is how many segments have events, all of them in the book: as the numbers rise, these are the first ones.
func mayGo(m api.Manifest, last int) int {
	stays := func(g api.Seg) bool {
		end := g.First + g.Count - 1
		if g.Count == 0 { // the active one, of which the manifest doesn't tell how many it has
			end = last
		}
		return end < g.First || end > m.SnapSeq
	}
	if i := slices.IndexFunc(m.Segs, stays); i >= 0 {
		return i
	}
	return len(m.Segs)
}

// takeAway takes the first segments out of a store, whose manifest is old.
func takeAway(s *store.Store, old api.Manifest, count int) api.Errno {
	disk, all := s.Disk(), count == len(old.Segs)
	if old.Gen >= api.MaxSeq || all && old.Next > api.MaxNum {
		return api.ErrNums
	}
	m := without(old, count, s.Last())
	var steps []func() api.Errno
	size, files := manifest.Size(m), someGoFiles
	if all {
		head := header(m.Segs[0])
		steps = begin(disk, m.Segs[0], head)
		size, files = size+len(head), allGoFiles
	}
	if !hasRoom(disk, size, files) {
		return api.ErrFull
	}
	steps = append(steps, func() api.Errno { return s.Swap(m) })
	for _, g := range old.Segs[:count] {
		steps = append(steps, func() api.Errno { return disk.Remove(names.Segment(g.Num)) })
	}
	return carryOut(s, steps)
}

// without is the manifest without its first segments; if none stays, a new one begins behind the last event.
func without(m api.Manifest, count, last int) api.Manifest {
	m.Segs = m.Segs[count:]
	if len(m.Segs) == 0 {
		m.Segs = []api.Seg{{Num: m.Next, First: last + 1}}
		m.Next++
	}
	m.Gen++
	m.Floor = m.Segs[0].First - 1
	return m
}

// header is that of a segment of a valid manifest: it can't be refused.
func header(g api.Seg) []byte {
	b, _ := segment.Header(g.Num, g.First)
	return b
}

// begin is the steps by which a segment of a header alone is laid.
func begin(disk *simfs.FS, g api.Seg, head []byte) []func() api.Errno {
	name := names.Segment(g.Num)
	return []func() api.Errno{
		func() api.Errno { return disk.Create(name) },
		func() api.Errno { return disk.Append(name, head) },
		func() api.Errno { return disk.Sync(name) },
	}
}
