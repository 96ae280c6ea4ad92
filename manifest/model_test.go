package manifest_test

import (
	"bytes"
	"math"
	"math/rand"
	"slices"

	"daybook/api"
	"daybook/frame"
	"daybook/varint"
)

// The model: a manifest by the letter of the chapter, one bound after the other.

func modelValid(m api.Manifest) bool {
	if m.Gen < 1 || m.Gen > 1<<40 {
		return false
	}
	if m.Next < 2 || m.Next > 1000000 {
		return false
	}
	if m.SnapSeq < 0 || m.SnapSeq > 1<<40 {
		return false
	}
	if m.Floor < 0 || m.Floor > m.SnapSeq {
		return false
	}
	if m.Snap < 0 || m.Snap >= m.Next {
		return false
	}
	if m.Snap == 0 && m.SnapSeq != 0 || m.Snap != 0 && m.SnapSeq == 0 {
		return false
	}
	if len(m.Segs) < 1 || len(m.Segs) > 256 {
		return false
	}
	for i, s := range m.Segs {
		if s.Num < 1 || s.Num >= m.Next || i > 0 && s.Num <= m.Segs[i-1].Num {
			return false
		}
		if i == 0 && s.First != m.Floor+1 {
			return false
		}
		if i > 0 && s.First != m.Segs[i-1].First+m.Segs[i-1].Count {
			return false
		}
		if i == len(m.Segs)-1 {
			return s.Count == 0 && s.Foot == 0 && s.First <= 1<<40+1
		}
		if s.Count < 1 || s.Count > 512 || s.Foot < 1 || s.Foot > 1<<40 {
			return false
		}
	}
	return false
}

// written is the bytes of a manifest, valid or not.
func written(m api.Manifest) []byte {
	us := []uint64{uint64(m.Next), uint64(m.Floor), uint64(m.Snap), uint64(m.SnapSeq)}
	for _, s := range m.Segs {
		us = append(us, uint64(s.Num), uint64(s.First), uint64(s.Count), uint64(s.Foot))
	}
	return framed(api.ManifestFrame, m.Gen, varint.EncodeAll(us))
}

func framed(kind, seq int, body []byte) []byte {
	b, bad := frame.Encode(api.Frame{Kind: kind, Seq: seq, Body: body})
	if bad != api.OK {
		panic(bad)
	}
	return b
}

// modelDecode takes the numbers as they stand, and what has other bytes than its own for none.
func modelDecode(b []byte) (api.Manifest, api.Errno) {
	f, _, bad := frame.Decode(b)
	us, _, bad2 := varint.DecodeAll(f.Body, math.MaxInt)
	if bad != api.OK || bad2 != api.OK || len(us) < 8 {
		return api.Manifest{}, api.ErrManifest
	}
	for _, u := range us {
		if u > 1<<41 {
			return api.Manifest{}, api.ErrManifest
		}
	}
	m := api.Manifest{Gen: f.Seq, Next: int(us[0]), Floor: int(us[1]), Snap: int(us[2]), SnapSeq: int(us[3])}
	for us = us[4:]; len(us) >= 4; us = us[4:] {
		m.Segs = append(m.Segs, api.Seg{Num: int(us[0]), First: int(us[1]), Count: int(us[2]), Foot: int(us[3])})
	}
	if !modelValid(m) || !bytes.Equal(written(m), b) {
		return api.Manifest{}, api.ErrManifest
	}
	return m, api.OK
}

func same(a, b api.Manifest) bool {
	return a.Gen == b.Gen && a.Next == b.Next && a.Floor == b.Floor && a.Snap == b.Snap && a.SnapSeq == b.SnapSeq && slices.Equal(a.Segs, b.Segs)
}

func isZero(m api.Manifest) bool { return same(m, api.Manifest{}) }

// clone shares nothing with what it is made of.
func clone(m api.Manifest) api.Manifest {
	m.Segs = slices.Clone(m.Segs)
	return m
}

// fresh is the manifest of the chapter's first example.
func fresh() api.Manifest {
	return api.Manifest{Gen: 1, Next: 2, Segs: []api.Seg{{Num: 1, First: 1}}}
}

// grown is a manifest with something in each field.
func grown() api.Manifest {
	return api.Manifest{Gen: 9, Next: 12, Floor: 20, Snap: 7, SnapSeq: 33, Segs: []api.Seg{
		{Num: 2, First: 21, Count: 3, Foot: 85}, {Num: 5, First: 24, Count: 512, Foot: 70000}, {Num: 8, First: 536, Count: 1, Foot: 43}, {Num: 11, First: 537},
	}}
}

// greatest is the manifest with the most bytes.
func greatest() api.Manifest {
	m := api.Manifest{Gen: 1 << 40, Next: 1000000, Floor: 1<<40 - 512*255, Snap: 999999, SnapSeq: 1 << 40}
	for i := range 255 {
		m.Segs = append(m.Segs, api.Seg{Num: 999744 + i, First: m.Floor + 1 + 512*i, Count: 512, Foot: 1 << 40})
	}
	m.Segs = append(m.Segs, api.Seg{Num: 999999, First: 1<<40 + 1})
	return m
}

// some is a valid manifest, often at an edge.
func some(r *rand.Rand) api.Manifest {
	m := api.Manifest{Gen: pick(r, 1, 1<<40)}
	if r.Intn(3) > 0 {
		m.SnapSeq = pick(r, 1, 1<<40-512*6)
		m.Floor = pick(r, 0, m.SnapSeq)
	}
	num, first := 0, m.Floor+1
	for range r.Intn(6) {
		s := api.Seg{Num: num + pick(r, 1, 100000), First: first, Count: pick(r, 1, 512), Foot: pick(r, 1, 1<<40)}
		m.Segs = append(m.Segs, s)
		num, first = s.Num, first+s.Count
	}
	m.Segs = append(m.Segs, api.Seg{Num: num + pick(r, 1, 100000), First: first})
	m.Next = pick(r, m.Segs[len(m.Segs)-1].Num+1, 1000000)
	if m.SnapSeq > 0 {
		m.Snap = pick(r, 1, m.Next-1)
	}
	return m
}

// pick is a number from least to most, an edge in two of three.
func pick(r *rand.Rand, least, most int) int {
	switch r.Intn(3) {
	case 0:
		return least
	case 1:
		return most
	}
	return least + r.Intn(most-least+1)
}

// fields is where the numbers of a manifest stand.
func fields(m *api.Manifest) []*int {
	all := []*int{&m.Gen, &m.Next, &m.Floor, &m.Snap, &m.SnapSeq}
	for i := range m.Segs {
		s := &m.Segs[i]
		all = append(all, &s.Num, &s.First, &s.Count, &s.Foot)
	}
	return all
}

// edges is numbers about the bounds, and about n.
func edges(n int) []int {
	return []int{
		math.MinInt, -1 << 40, -1, 0, 1, 2, 3, 511, 512, 513, 999998, 999999, 1000000, 1000001,
		1<<40 - 1, 1 << 40, 1<<40 + 1, 1<<40 + 2, math.MaxInt - 1, math.MaxInt, n - 2, n - 1, n + 1, n + 2,
	}
}
