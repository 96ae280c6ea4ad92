package audit

import (
	"daybook/api"
	"daybook/book"
	"daybook/frame"
	"daybook/segment"
	"daybook/upcast"
)

// bookAmiss is what is wrong with the file of a book.
func bookAmiss(name string, num int, b []byte) []api.Finding {
	found, _, _, bad := book.Decode(b)
	if bad != api.OK || found != num {
		return whole(name, api.ErrBook)
	}
	return nil
}

// segmentAmiss is what is wrong with the file of a segment.
func (s shelf) segmentAmiss(name string, num int, b []byte) []api.Finding {
	seg, events, bad := segment.Scan(b)
	if bad != api.OK || seg.Num != num {
		return whole(name, api.ErrHeader)
	}
	found := eventsAmiss(name, events)
	if bad := behind(seg, b[seg.Good:]); bad != api.OK {
		found = append(found, api.Finding{Name: name, At: seg.Good, Code: bad})
	}
	if g, named := s.named[name]; named && seg.Sealed != (g.Count > 0) {
		found = append(found, api.Finding{Name: name, At: seg.Good, Code: api.ErrFull})
	}
	return found
}

// eventsAmiss is the events that are whole frames and yet no events.
func eventsAmiss(name string, events []api.Placed) []api.Finding {
	var found []api.Finding
	for _, p := range events {
		if _, bad := upcast.Read(p.Frame.Body); bad != api.OK {
			found = append(found, api.Finding{Name: name, At: p.At, Code: bad})
		}
	}
	return found
}

// behind is what is wrong with the bytes behind a segment's good ones; OK, if there are none.
func behind(seg api.Segment, rest []byte) api.Errno {
	if len(rest) == 0 {
		return api.OK
	}
	if seg.Sealed {
		return api.ErrSealed
	}
	f, _, bad := frame.Decode(rest)
	switch {
	case bad != api.OK:
		return bad
	case f.Kind == api.FooterFrame:
		return api.ErrIndex
	}
	return api.ErrMissing
}
