package upkeep

import (
	"daybook/api"
	"daybook/book"
	"daybook/manifest"
	"daybook/names"
	"daybook/store"
)

// snapshotFiles is how many files a snapshot lays at once beside those that are there: the book, and the manifest under its other name.
const snapshotFiles = 2

// Snapshot writes the states of all orders into a book.
func Snapshot(s *store.Store) api.Errno {
	if bad := s.Alive(); bad != api.OK {
		return bad
	}
	switch m := s.Manifest(); {
	case s.Last() == m.SnapSeq:
		return api.ErrEmpty
	case m.Next > api.MaxNum || m.Gen >= api.MaxSeq:
		return api.ErrNums
	}
	states, bad := States(s)
	if bad != api.OK {
		return bad
	}
	return write(s, states)
}

// write puts a book of the states in the place of the store's, if there is room for both.
func write(s *store.Store, states []api.State) api.Errno {
	disk, m, last := s.Disk(), s.Manifest(), s.Last()
	former, num := m.Snap, m.Next
	m.Gen, m.Next, m.Snap, m.SnapSeq = m.Gen+1, num+1, num, last
	b, _ := book.Encode(num, last, states) // what was folded up to an event of the store can't be refused
	if !hasRoom(disk, len(b)+manifest.Size(m), snapshotFiles) {
		return api.ErrFull
	}
	if _, bad := disk.Size(names.Book(num)); bad == api.OK {
		return api.ErrExists // another hand has laid it; asked ahead of the steps, the first of which would go well
	}
	steps := []func() api.Errno{
		s.Sync, // an opening must find the events that the book takes in, as long as their segments are there
		func() api.Errno { return book.Save(disk, num, last, states) },
		func() api.Errno { return s.Swap(m) },
	}
	if former != 0 {
		steps = append(steps, func() api.Errno { return disk.Remove(names.Book(former)) })
	}
	return carryOut(s, steps)
}
