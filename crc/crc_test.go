package crc_test

import (
	"bytes"
	"hash/crc32"
	"math"
	"math/rand"
	"testing"

	"daybook/crc"
)

// plain is the register as the document words it, bit by bit.
func plain(register uint32, b []byte) uint32 {
	for _, c := range b {
		register ^= uint32(c)
		for range 8 {
			out := register & 1
			register >>= 1
			if out == 1 {
				register ^= 0xEDB88320
			}
		}
	}
	return register
}

// texts is the empty text, all single bytes, and others.
func texts() [][]byte {
	all := [][]byte{nil, {}, []byte("123456789"), make([]byte, 1000), bytes.Repeat([]byte{0xff}, 1000)}
	for c := range 256 {
		all = append(all, []byte{byte(c)})
	}
	r := rand.New(rand.NewSource(3))
	for range 200 {
		b := make([]byte, r.Intn(300))
		r.Read(b)
		all = append(all, b)
	}
	return all
}

func TestP3_1Sum(t *testing.T) {
	if crc.Sum([]byte("123456789")) != 0xCBF43926 || crc.Sum([]byte{0}) != 0xD202EF8D || crc.Sum(nil) != 0 || crc.Sum([]byte{}) != 0 {
		t.Error("the examples' sums")
	}
	for _, b := range texts() {
		if got := crc.Sum(b); got != ^plain(0xFFFFFFFF, b) || got != crc32.ChecksumIEEE(b) {
			t.Errorf("Sum(%x) = %08x", b, got)
		}
	}
}

func TestP3_2Update(t *testing.T) {
	if crc.Update(crc.Sum([]byte("1234")), []byte("56789")) != 0xCBF43926 {
		t.Error("Update of two pieces")
	}
	r := rand.New(rand.NewSource(4))
	for _, b := range texts() {
		for _, s := range []uint32{0, 1, 0xFFFFFFFF, r.Uint32()} {
			if got := crc.Update(s, b); got != ^plain(^s, b) {
				t.Errorf("Update(%08x, %x) = %08x", s, b, got)
			}
			if crc.Update(s, nil) != s || crc.Update(s, []byte{}) != s {
				t.Errorf("Update(%08x, nothing)", s)
			}
		}
		cut := r.Intn(len(b) + 1)
		if crc.Update(crc.Sum(b[:cut]), b[cut:]) != crc.Sum(b) {
			t.Errorf("Update of %x at %d", b, cut)
		}
	}
}

func TestP3_3CombineOfTwoPieces(t *testing.T) {
	r := rand.New(rand.NewSource(5))
	for _, b := range texts() {
		cut := r.Intn(len(b) + 1)
		x, y := b[:cut], b[cut:]
		if crc.Combine(crc.Sum(x), crc.Sum(y), len(y)) != crc.Sum(b) {
			t.Errorf("Combine of %x and %x", x, y)
		}
	}
}

func TestP3_3CombineTakesNoughts(t *testing.T) {
	r := rand.New(rand.NewSource(6))
	for n := range 600 {
		a, b := r.Uint32(), r.Uint32()
		if got := crc.Combine(a, b, n); got != plain(a, make([]byte, n))^b {
			t.Errorf("Combine(%08x, %08x, %d) = %08x", a, b, n, got)
		}
	}
	if a := uint32(0x12345678); crc.Combine(a, 9, 1<<20+3) != plain(a, make([]byte, 1<<20+3))^9 {
		t.Error("Combine of a longer run")
	}
}

func TestP3_3CombineAtTheEdges(t *testing.T) {
	for _, a := range []uint32{0, 1, 7, 1 << 31, 0xFFFFFFFF, 0xCBF43926} {
		if crc.Combine(a, 0, 0) != a {
			t.Errorf("Combine(%08x, 0, 0)", a)
		}
		for _, n := range []int{0, -1, -9, math.MinInt} {
			if crc.Combine(a, 0x5A5A, n) != a^0x5A5A {
				t.Errorf("Combine(%08x, .., %d)", a, n)
			}
		}
		// The register comes round behind 2^32 - 1 shifts, so behind as many bytes too.
		if crc.Combine(a, 3, 1<<32-1) != a^3 {
			t.Errorf("Combine(%08x, 3, 2^32 - 1)", a)
		}
		if crc.Combine(a, 3, math.MaxInt) != crc.Combine(a, 3, 1<<31-1) {
			t.Errorf("Combine(%08x, 3, the greatest)", a)
		}
		if crc.Combine(a, 3, 1<<62) != crc.Combine(a, 3, 1<<30) {
			t.Errorf("Combine(%08x, 3, 2^62)", a)
		}
	}
}

func TestP3_4Four(t *testing.T) {
	for s, want := range map[uint32][]byte{
		0xD202EF8D: {0x8d, 0xef, 0x02, 0xd2},
		0:          {0, 0, 0, 0},
		1:          {1, 0, 0, 0},
		0xFF000000: {0, 0, 0, 0xff},
		0xFFFFFFFF: {0xff, 0xff, 0xff, 0xff},
	} {
		if got := crc.Four(s); !bytes.Equal(got, want) {
			t.Errorf("Four(%08x) = %x", s, got)
		}
	}
	crc.Four(1)[0] = 9
	if crc.Four(1)[0] != 1 {
		t.Error("an answer of Four is shared")
	}
}

func TestP3_4Closed(t *testing.T) {
	if !crc.Closed([]byte{0, 0x8d, 0xef, 0x02, 0xd2}) || !crc.Closed(make([]byte, 4)) {
		t.Error("the examples' texts are closed")
	}
	for _, b := range [][]byte{nil, {}, {0}, make([]byte, 3), make([]byte, 5), {1, 0, 0, 0}, {0, 0, 0, 1}, {0, 0xd2, 0x02, 0xef, 0x8d}} {
		if crc.Closed(b) {
			t.Errorf("Closed(%x)", b)
		}
	}
	for _, b := range texts() {
		closed := bytes.Join([][]byte{b, crc.Four(crc.Sum(b))}, nil)
		if !crc.Closed(closed) {
			t.Errorf("%x is not closed", closed)
		}
		if crc.Closed(append(closed, 0)) {
			t.Errorf("%x is closed", append(closed, 0))
		}
	}
}

func TestP3_4ClosedTellsEveryTurnedRun(t *testing.T) {
	b := []byte("an order's event")
	b = append(b, crc.Four(crc.Sum(b))...)
	r := rand.New(rand.NewSource(7))
	for from := range len(b) * 8 {
		for width := 1; width <= 32 && from+width <= len(b)*8; width++ {
			turned := bytes.Clone(b)
			for i := range width {
				// The first and the last bit of a run are turned, those within as it comes.
				if i == 0 || i == width-1 || r.Intn(2) == 1 {
					turned[(from+i)/8] ^= 1 << ((from + i) % 8)
				}
			}
			if crc.Closed(turned) {
				t.Fatalf("a run of %d bits at %d is not told", width, from)
			}
		}
	}
}

func TestP3_5Digest(t *testing.T) {
	d := crc.New()
	if d == nil || d.Sum() != 0 || d.Len() != 0 {
		t.Fatal("a new digest has written something")
	}
	var all []byte
	for _, b := range texts() {
		piece := bytes.Clone(b)
		d.Write(piece)
		if !bytes.Equal(piece, b) {
			t.Error("Write has changed what was handed in")
		}
		for i := range piece { // nothing of it may be kept
			piece[i] ^= 0xff
		}
		all = append(all, b...)
		if d.Sum() != crc.Sum(all) || d.Len() != len(all) || d.Sum() != crc.Sum(all) {
			t.Fatalf("behind %d bytes: %08x, %d", len(all), d.Sum(), d.Len())
		}
	}
	d.Reset()
	if d.Sum() != 0 || d.Len() != 0 {
		t.Error("Reset has kept something")
	}
	d.Write([]byte("123456789"))
	if d.Sum() != 0xCBF43926 || d.Len() != 9 {
		t.Error("Write behind Reset")
	}
}

func TestP3_5DigestsNeverMeet(t *testing.T) {
	a, b := crc.New(), crc.New()
	a.Write([]byte("1234"))
	b.Write([]byte("x"))
	a.Write([]byte("56789"))
	if a.Sum() != 0xCBF43926 || a.Len() != 9 || b.Sum() != crc.Sum([]byte("x")) || b.Len() != 1 {
		t.Error("two digests meet")
	}
	b.Reset()
	if a.Len() != 9 {
		t.Error("a Reset reaches another digest")
	}
}

func TestP3_5NilDigest(t *testing.T) {
	var d *crc.Digest
	d.Write([]byte("1"))
	d.Reset()
	if d.Sum() != 0 || d.Len() != 0 {
		t.Error("a nil digest answers something")
	}
}
