package store

import (
	"slices"

	"daybook/api"
	"daybook/index"
	"daybook/names"
	"daybook/scan"
	"daybook/segment"
	"daybook/simfs"
)

// known is what is known of a segment: where its events stand in its file.
type known struct {
	file   string
	first  int // the number of its first event
	events int // how many it has
	stride int
	marks  []api.Mark // of the first event and of every stride-th behind it
	end    int        // the place behind the last event
}

// last is the number of the last event; that of the one ahead of the first, if there is none.
func (k known) last() int { return k.first - 1 + k.events }

// begun is a segment of a right number and a header alone.
func begun(num, first, stride int) known {
	return known{file: names.Segment(num), first: first, stride: stride, end: len(header(num, first))}
}

// header is that of a segment whose numbers are those of a valid manifest: it can't be refused.
func header(num, first int) []byte {
	b, _ := segment.Header(num, first)
	return b
}

// found is an active segment behind an opening, which has left nothing behind its events. The opening has just read it, but tells no places of events.
func found(fs *simfs.FS, g api.Seg, stride int) known {
	k := begun(g.Num, g.First, stride)
	size, _ := fs.Size(k.file)
	b, _ := fs.Read(k.file, 0, size)
	s, events, _ := segment.Scan(b)
	k.events, k.marks, k.end = s.Count, index.Build(events, stride), s.Good
	return k
}

// sealed is a segment of which the manifest tells how it ends; a false, if it no longer ends so.
func sealed(fs *simfs.FS, g api.Seg) (known, bool) {
	k := known{file: names.Segment(g.Num), first: g.First, events: g.Count, end: g.Foot}
	size, _ := fs.Size(k.file)
	b, _ := fs.Read(k.file, g.Foot, size-g.Foot) // refused where the file ends ahead of its footer, or is gone
	marks, stride, bad := segment.Closing(b, g)
	k.marks, k.stride = marks, stride
	return k, bad == api.OK
}

// grow takes in an event that was laid behind the others.
func (k *known) grow(size int) {
	if k.events%k.stride == 0 {
		k.marks = append(k.marks, api.Mark{Seq: k.last() + 1, At: k.end})
	}
	k.events++
	k.end += size
}

// frames is the events from the last mark on that is at or ahead of a number, none if they all are below it; a false, if they don't stand where they should.
func (k known) frames(fs *simfs.FS, from int) ([]api.Placed, bool) {
	if k.events == 0 || k.last() < from {
		return nil, true
	}
	mark, _ := index.Seek(k.marks, max(from, k.first)) // there is one: the first event has a mark
	b, _ := fs.Read(k.file, mark.At, k.end-mark.At)
	count := k.last() - mark.Seq + 1
	events, size := scan.Run(b, 0, mark.Seq, count)
	ok := len(events) == count && size == k.end-mark.At && k.marked(events, mark.At)
	return events, ok
}

// marked tells whether the last events, whose places are counted from at on, stand where the marks say.
func (k known) marked(events []api.Placed, at int) bool {
	ms := index.Build(events, k.stride)
	for i := range ms {
		ms[i].At += at
	}
	return slices.Equal(ms, k.marks[len(k.marks)-len(ms):])
}
