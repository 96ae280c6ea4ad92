// Package varint is layer 2: see shared/doc/02-varint.md.
package varint

import (
	"math/bits"

	"daybook/api"
)

const (
	groupBits = 7
	more      = 1 << groupBits // set in every byte but the last
	maxSize   = 10             // bytes of the greatest number
	maxTenth  = 1              // nine groups leave one of the 64 bits
)

// Size is how many bytes Encode(u) has.
func Size(u uint64) int {
	return (bits.Len64(u|1) + groupBits - 1) / groupBits // u|1: nought has a group too
}

// Encode writes u in groups of seven bits, the lowest first.
func Encode(u uint64) []byte {
	return put(make([]byte, 0, Size(u)), u)
}

// put lays u behind b.
func put(b []byte, u uint64) []byte {
	for u >= more {
		b = append(b, byte(u)|more)
		u >>= groupBits
	}
	return append(b, byte(u))
}

// Decode reads the number with which b begins, and tells how many bytes it has.
func Decode(b []byte) (uint64, int, api.Errno) {
	var u uint64
	for i, c := range b {
		if i == maxSize-1 && c > maxTenth {
			return 0, 0, api.ErrWide
		}
		u |= uint64(c&^more) << (groupBits * i)
		if c >= more {
			continue
		}
		if c == 0 && i > 0 {
			return 0, 0, api.ErrLong
		}
		return u, i + 1, api.OK
	}
	return 0, 0, api.ErrShort
}

// Zig lays numbers with a sign among those without one: 0, -1, 1, -2, ..
func Zig(v int64) uint64 {
	return uint64(v)<<1 ^ uint64(v>>63) // v>>63 is all ones below nought: it turns 2v into -2v - 1
}

// Zag is the way back.
func Zag(u uint64) int64 {
	return int64(u>>1) ^ -int64(u&1)
}

// EncodeAll writes how many there are, and each.
func EncodeAll(us []uint64) []byte {
	size := Size(uint64(len(us)))
	for _, u := range us {
		size += Size(u)
	}
	b := put(make([]byte, 0, size), uint64(len(us)))
	for _, u := range us {
		b = put(b, u)
	}
	return b
}

// DecodeAll reads such a list of at most so many numbers.
func DecodeAll(b []byte, most int) ([]uint64, int, api.Errno) {
	count, at, e := Decode(b)
	if e != api.OK {
		return nil, 0, e
	}
	if count > uint64(max(most, 0)) {
		return nil, 0, api.ErrBig
	}
	us := make([]uint64, 0, min(count, uint64(len(b)-at))) // each has a byte at least: a false count gets no more room than that
	for range count {
		u, size, e := Decode(b[at:])
		if e != api.OK {
			return nil, 0, e
		}
		us = append(us, u)
		at += size
	}
	return us, at, api.OK
}
