package segment_test

import (
	"slices"

	"daybook/api"
	"daybook/frame"
	"daybook/index"
	"daybook/varint"
)

// The model: a segment read by the letter of the chapter, part by part.

// takes reads numbers off the beginning of a body, and what stands behind them.
func takes(b []byte, count int) ([]uint64, []byte, bool) {
	var us []uint64
	for range count {
		u, size, bad := varint.Decode(b)
		if bad != api.OK {
			return nil, nil, false
		}
		us, b = append(us, u), b[size:]
	}
	return us, b, true
}

func modelHeader(b []byte) (num, first, size int, bad api.Errno) {
	f, size, bad := frame.Decode(b)
	if bad != api.OK || f.Kind != api.HeaderFrame {
		return 0, 0, 0, api.ErrHeader
	}
	us, rest, ok := takes(f.Body, 2)
	if !ok || len(rest) != 0 || us[0] < 1 || us[0] > api.MaxNum || us[1] < 1 || us[1] > api.MaxSeq+1 || us[0] != uint64(f.Seq) {
		return 0, 0, 0, api.ErrHeader
	}
	return f.Seq, int(us[1]), size, api.OK
}

func modelEvents(b []byte, at, first int) ([]api.Placed, int) {
	var ps []api.Placed
	for len(ps) < 512 {
		f, size, bad := frame.Decode(b[at:])
		if bad != api.OK || f.Kind != api.EventFrame || f.Seq != first+len(ps) {
			break
		}
		ps = append(ps, api.Placed{At: at, Size: size, Frame: f})
		at += size
	}
	return ps, at
}

// modelFooter is the stride and the marks of the footer of these events with which b begins, and its size.
func modelFooter(b []byte, num, first int, ps []api.Placed) (stride int, marks []api.Mark, size int, ok bool) {
	f, size, bad := frame.Decode(b)
	if bad != api.OK || f.Kind != api.FooterFrame || f.Seq != num {
		return 0, nil, 0, false
	}
	us, rest, ok := takes(f.Body, 3)
	if !ok || us[0] != uint64(first) || us[1] < 1 || us[1] != uint64(len(ps)) || us[2] < 1 || us[2] > 64 {
		return 0, nil, 0, false
	}
	stride = int(us[2])
	for i, p := range ps {
		if i%stride == 0 {
			marks = append(marks, api.Mark{Seq: p.Frame.Seq, At: p.At})
		}
	}
	if read, bad := index.Decode(rest); bad != api.OK || !slices.Equal(read, marks) {
		return 0, nil, 0, false
	}
	return stride, marks, size, true
}

func modelScan(b []byte) (api.Segment, []api.Placed, api.Errno) {
	num, first, size, bad := modelHeader(b)
	if bad != api.OK {
		return api.Segment{}, nil, bad
	}
	ps, good := modelEvents(b, size, first)
	s := api.Segment{Num: num, First: first, Count: len(ps), Good: good}
	if stride, marks, size, ok := modelFooter(b[good:], num, first, ps); ok {
		s.Sealed, s.Stride, s.Marks, s.Good = true, stride, marks, good+size
	}
	return s, ps, api.OK
}

func modelClosing(b []byte, g api.Seg) ([]api.Mark, int, api.Errno) {
	f, size, bad := frame.Decode(b)
	if bad != api.OK || size != len(b) || f.Kind != api.FooterFrame || f.Seq != g.Num {
		return nil, 0, api.ErrIndex
	}
	us, rest, ok := takes(f.Body, 3)
	if !ok || us[1] < 1 || us[2] < 1 || us[2] > 64 || g.First < 0 || us[0] != uint64(g.First) || g.Count < 0 || us[1] != uint64(g.Count) {
		return nil, 0, api.ErrIndex
	}
	marks, bad := index.Decode(rest)
	need := us[1] / us[2]
	if us[1]%us[2] > 0 {
		need++
	}
	if bad != api.OK || uint64(len(marks)) != need {
		return nil, 0, api.ErrIndex
	}
	for i, m := range marks {
		if uint64(m.Seq) != us[0]+uint64(i)*us[2] || m.At >= g.Foot {
			return nil, 0, api.ErrIndex
		}
	}
	return marks, int(us[2]), api.OK
}
