// Package crc is layer 3: see shared/doc/03-crc.md.
package crc

// halves is what the register makes of its lowest four bits while it is shifted by four: a byte is taken by two look-ups in place of eight shifts.
var halves = [16]uint32{
	0x00000000, 0x1DB71064, 0x3B6E20C8, 0x26D930AC,
	0x76DC4190, 0x6B6B51F4, 0x4DB26158, 0x5005713C,
	0xEDB88320, 0xF00F9344, 0xD6D6A3E8, 0xCB61B38C,
	0x9B64C2B0, 0x86D3D2D4, 0xA00AE278, 0xBDBDF21C,
}

// take is the register behind one more byte.
func take(register uint32, c byte) uint32 {
	register ^= uint32(c)
	register = register>>4 ^ halves[register&15]
	return register>>4 ^ halves[register&15]
}

// Sum is the check sum of b.
func Sum(b []byte) uint32 { return Update(0, b) }

// Update is the check sum of what had the sum s, with b behind it.
func Update(s uint32, b []byte) uint32 {
	register := ^s
	for _, c := range b {
		register = take(register, c)
	}
	return ^register
}

// Combine is the sum of two pieces that lie behind each other, from their sums and the second one's length.
func Combine(a, b uint32, n int) uint32 {
	for m := oneNought(); n > 0; n >>= 1 {
		if n&1 == 1 {
			a = m.of(a)
		}
		m = m.twice()
	}
	return a ^ b
}

// linear is what a run of nought bytes does to the register: the image of each of its bits, for the images of all bits that are set lie over each other by exclusive or.
type linear [32]uint32

// oneNought is what a single nought byte does.
func oneNought() linear {
	var m linear
	for i := range m {
		m[i] = take(1<<i, 0)
	}
	return m
}

// of is the image of a register.
func (m linear) of(register uint32) uint32 {
	var image uint32
	for i := range m {
		if register>>i&1 == 1 {
			image ^= m[i]
		}
	}
	return image
}

// twice is the map of a run of double the length.
func (m linear) twice() linear {
	var double linear
	for i := range m {
		double[i] = m.of(m[i])
	}
	return double
}

// Four is a sum as it is laid in files: four bytes, the lowest first.
func Four(s uint32) []byte {
	four := laid(s)
	return four[:]
}

// laid is the four bytes of a sum as a value that can be compared.
func laid(s uint32) [4]byte {
	return [4]byte{byte(s), byte(s >> 8), byte(s >> 16), byte(s >> 24)}
}

// Closed tells whether the last four bytes of b are the sum of those ahead of them.
func Closed(b []byte) bool {
	at := len(b) - 4
	return at >= 0 && [4]byte(b[at:]) == laid(Sum(b[:at]))
}
