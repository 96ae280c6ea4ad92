package store

import (
	"daybook/api"
	"daybook/upcast"
)

// Read is the events from a number on, brought up to version 5.
func (s *Store) Read(from int) ([]api.Record, api.Errno) {
	if bad := s.Alive(); bad != api.OK {
		return nil, bad
	}
	if from < 1 || from > s.last()+1 {
		return nil, api.ErrArg
	}
	if from <= s.manifest.Floor {
		return nil, api.ErrCompacted
	}
	events, ok := s.gather(from)
	if !ok {
		return nil, api.ErrCorrupt
	}
	records, ok := broughtUp(events, from)
	if !ok {
		return nil, api.ErrCorrupt
	}
	s.decoded = len(events)
	return records, api.OK
}

// gather is the events of all segments from a number on, and those that must be gone through to come there; a false, if a segment is no more as it was written.
func (s *Store) gather(from int) ([]api.Placed, bool) {
	var all []api.Placed
	for _, g := range s.manifest.Segs[:len(s.manifest.Segs)-1] {
		if g.First+g.Count <= from {
			continue // whatever it is like: it holds nothing that is asked for
		}
		k, ok := sealed(s.disk, g)
		if !ok {
			return nil, false
		}
		events, ok := k.frames(s.disk, from)
		if !ok {
			return nil, false
		}
		all = append(all, events...)
	}
	events, ok := s.frames(s.disk, from)
	return append(all, events...), ok
}

// broughtUp is those of the events that have a number from from on, in version 5; a false, if one of them is no event.
func broughtUp(events []api.Placed, from int) ([]api.Record, bool) {
	var records []api.Record
	for _, p := range events {
		if p.Frame.Seq < from {
			continue
		}
		e, bad := upcast.Read(p.Frame.Body)
		if bad != api.OK {
			return nil, false
		}
		records = append(records, api.Record{Seq: p.Frame.Seq, Event: e})
	}
	return records, true
}
