package store

import (
	"daybook/api"
	"daybook/frame"
	"daybook/manifest"
	"daybook/names"
	"daybook/schema"
	"daybook/segment"
)

// How many files are laid at once beside those that are there: by a swap the manifest under its other name, by a rotation a segment too.
const (
	swapFiles     = 1
	rotationFiles = 2
)

// Append puts an event of a version behind the others, and tells its number.
func (s *Store) Append(v int, e api.Event) (int, api.Errno) {
	if bad := s.Alive(); bad != api.OK {
		return 0, bad
	}
	raw, bad := schema.Pack(v, e)
	if bad != api.OK {
		return 0, bad
	}
	return s.Put(raw)
}

// Put puts a packed event behind the others, and tells its number.
func (s *Store) Put(raw []byte) (int, api.Errno) {
	if bad := s.Alive(); bad != api.OK {
		return 0, bad
	}
	if _, _, bad := schema.Unpack(raw); bad != api.OK {
		return 0, bad
	}
	if s.last() == api.MaxSeq {
		return 0, api.ErrSeq
	}
	b, _ := frame.Encode(api.Frame{Kind: api.EventFrame, Seq: s.last() + 1, Body: raw}) // a packed event is far below a frame's bounds
	if s.events >= s.config.SegEvents {
		if bad := s.rotate(len(b)); bad != api.OK {
			return 0, bad
		}
	}
	if bad := s.heard(s.disk.Append(s.file, b)); bad != api.OK { // the disk itself tells whether the frame has room
		return 0, bad
	}
	s.grow(len(b))
	return s.last(), api.OK
}

// hasRoom tells whether so many bytes and files more have room on the disk.
func (s *Store) hasRoom(size, files int) bool {
	return size <= s.disk.Free() && len(s.disk.List())+files <= api.MaxFiles
}

// Sync makes all events safe.
func (s *Store) Sync() api.Errno {
	if bad := s.Alive(); bad != api.OK {
		return bad
	}
	return s.heard(s.disk.Sync(s.file))
}

// Rotate seals the active segment and begins another one.
func (s *Store) Rotate() api.Errno {
	if bad := s.Alive(); bad != api.OK {
		return bad
	}
	return s.rotate(0)
}

// rotate is a rotation behind which so many bytes more are to be laid.
func (s *Store) rotate(more int) api.Errno {
	if bad := s.barred(); bad != api.OK {
		return bad
	}
	b, _ := s.disk.Read(s.file, 0, s.end)
	foot, bad := segment.Footer(b, s.config.Stride)
	if bad != api.OK {
		return api.ErrCorrupt // another hand has changed the file beneath the store
	}
	m := s.rotated()
	g := active(m)
	head := header(g.Num, g.First)
	if !s.hasRoom(len(foot)+len(head)+manifest.Size(m)+more, rotationFiles) {
		return api.ErrFull
	}
	if bad := s.heard(s.turn(foot, head, m)); bad != api.OK {
		return bad
	}
	s.known, s.manifest = begun(g.Num, g.First, s.config.Stride), m
	return api.OK
}

// barred is what bars a rotation, whatever room there is.
func (s *Store) barred() api.Errno {
	switch m := s.manifest; {
	case s.events == 0:
		return api.ErrEmpty
	case len(m.Segs) >= api.MaxSegs:
		return api.ErrSegs
	case m.Next > api.MaxNum || m.Gen >= api.MaxSeq:
		return api.ErrNums
	}
	return api.OK
}

// rotated is the manifest behind a rotation.
func (s *Store) rotated() api.Manifest {
	m := copied(s.manifest)
	g := &m.Segs[len(m.Segs)-1]
	g.Count, g.Foot = s.events, s.end
	m.Segs = append(m.Segs, api.Seg{Num: m.Next, First: s.last() + 1})
	m.Gen++
	m.Next++
	return m
}

// turn does a rotation's steps: the manifest names the new segment once all that it tells of is safe.
func (s *Store) turn(foot, head []byte, m api.Manifest) api.Errno {
	next := names.Segment(active(m).Num)
	steps := []func() api.Errno{
		func() api.Errno { return s.disk.Append(s.file, foot) },
		func() api.Errno { return s.disk.Sync(s.file) },
		func() api.Errno { return s.disk.Create(next) },
		func() api.Errno { return s.disk.Append(next, head) },
		func() api.Errno { return s.disk.Sync(next) },
		func() api.Errno { return manifest.Save(s.disk, m) },
	}
	for _, step := range steps {
		if bad := step(); bad != api.OK {
			return bad
		}
	}
	return api.OK
}

// Swap puts another manifest in the place of the store's.
func (s *Store) Swap(m api.Manifest) api.Errno {
	if bad := s.Alive(); bad != api.OK {
		return bad
	}
	if !manifest.Valid(m) || m.Gen != s.manifest.Gen+1 || !s.goesOn(active(m)) {
		return api.ErrArg
	}
	if !s.hasRoom(manifest.Size(m), swapFiles) {
		return api.ErrFull
	}
	if bad := s.heard(manifest.Save(s.disk, m)); bad != api.OK {
		return bad
	}
	if g := active(m); g != active(s.manifest) {
		s.known = begun(g.Num, g.First, s.config.Stride)
	}
	s.manifest = copied(m)
	return api.OK
}

// goesOn tells whether events may be appended to that segment from now on: it is the active one, or has a header alone and begins behind the last event.
func (s *Store) goesOn(g api.Seg) bool {
	now := active(s.manifest)
	if g.Num == now.Num {
		return g == now
	}
	size, _ := s.disk.Size(names.Segment(g.Num)) // 0, if it isn't there
	return g.First == s.last()+1 && size == len(header(g.Num, g.First))
}
