package recovery

import (
	"daybook/api"
	"daybook/book"
	"daybook/names"
	"daybook/scan"
	"daybook/segment"
	"daybook/simfs"
)

// bookThere tells whether the book that a manifest names is the one that it speaks of; if it names none, there is nothing to look for.
func bookThere(fs *simfs.FS, m api.Manifest) bool {
	if m.Snap == 0 {
		return true
	}
	seq, _, bad := book.Load(fs, m.Snap)
	return bad == api.OK && seq == m.SnapSeq
}

// sealedThere tells whether all segments of a manifest but the active one are there.
func sealedThere(fs *simfs.FS, m api.Manifest) bool {
	for _, g := range m.Segs[:len(m.Segs)-1] {
		if !isSealed(fs, g) {
			return false
		}
	}
	return true
}

// isSealed tells whether a segment's file begins and ends as one that was sealed. Its events are not read: an opening costs no more for what was sealed long ago.
func isSealed(fs *simfs.FS, g api.Seg) bool {
	name := names.Segment(g.Num)
	head, ok := headSize(beginning(fs, name, g), g)
	if !ok {
		return false
	}
	marks, _, bad := segment.Closing(from(fs, name, g.Foot), g)
	return bad == api.OK && marks[0].At == head // a footer that closes a segment has a mark at least
}

// beginning is as many bytes of a segment's file as its header has; none, if it has fewer or isn't there.
func beginning(fs *simfs.FS, name string, g api.Seg) []byte {
	right, _ := segment.Header(g.Num, g.First)
	b, _ := fs.Read(name, 0, len(right))
	return b
}

// from is the bytes of a file from a place on; none, if it ends ahead of it or isn't there.
func from(fs *simfs.FS, name string, at int) []byte {
	size, _ := fs.Size(name)
	b, _ := fs.Read(name, at, size-at) // refused where the file ends ahead of that place
	return b
}

// headSize is how many bytes the header has with which b begins; a false, if it is not the one of that segment.
func headSize(b []byte, g api.Seg) (int, bool) {
	num, first, size, bad := segment.HeaderOf(b)
	return size, bad == api.OK && num == g.Num && first == g.First
}

// readActive is the place behind the active segment's last event, and that event's number; a false, if the segment isn't there.
func readActive(fs *simfs.FS, g api.Seg) (int, int, bool) {
	b := from(fs, names.Segment(g.Num), 0)
	head, ok := headSize(b, g)
	if !ok {
		return 0, 0, false
	}
	events, end := scan.Run(b, head, g.First, api.MaxSegEvents)
	return end, g.First - 1 + len(events), true
}
