// Package word encodes integers as bytes and packs a slot and its generation into one word (doc/01-word.md).
package word

import (
	"versionmap/api"
)

const (
	maxGroups = 10 // groups of seven bits in the longest varint
	keyBytes  = 8
	signBit   = 1 << 63
)

// Zigzag maps a signed number to an unsigned one, so that numbers near 0 have short varints.
func Zigzag(n int64) uint64 {
	return uint64(n)<<1 ^ uint64(n>>63)
}

// Unzigzag is the inverse function of Zigzag.
func Unzigzag(u uint64) int64 {
	return int64(u>>1) ^ -int64(u&1)
}

// AppendUvarint returns a new slice with b and the varint of u.
func AppendUvarint(b []byte, u uint64) []byte {
	out := copyWithRoom(b, maxGroups)
	for u > 0x7f {
		out = append(out, byte(u)|0x80)
		u >>= 7
	}
	return append(out, byte(u))
}

// Uvarint reads the varint at b[at], and returns its value and the index of the byte after it.
func Uvarint(b []byte, at int) (uint64, int, api.Errno) {
	if at < 0 || at > len(b) {
		return 0, 0, api.ErrInvalid
	}
	u := uint64(0)
	for i, c := range b[at:] {
		// Nine groups hold 63 bits, so the tenth byte has room for one bit and always ends the loop.
		if i == maxGroups-1 && c > 1 {
			return 0, 0, api.ErrMalformed
		}
		u |= uint64(c&0x7f) << (7 * i)
		if c&0x80 != 0 {
			continue
		}
		// A last group of 0 adds nothing: the encoding is not the shortest one.
		if c == 0 && i > 0 {
			return 0, 0, api.ErrMalformed
		}
		return u, at + i + 1, api.OK
	}
	return 0, 0, api.ErrTruncated
}

// AppendKey returns a new slice with b and eight bytes for k. The inverted sign bit makes their bytewise order that of the numbers.
func AppendKey(b []byte, k int64) []byte {
	out := copyWithRoom(b, keyBytes)
	u := uint64(k) ^ signBit
	for shift := 56; shift >= 0; shift -= 8 {
		out = append(out, byte(u>>shift))
	}
	return out
}

// Key reads the number whose eight bytes begin at b[at], and returns it and the index of the byte after it.
func Key(b []byte, at int) (int64, int, api.Errno) {
	if at < 0 || at > len(b) {
		return 0, 0, api.ErrInvalid
	}
	if len(b)-at < keyBytes {
		return 0, 0, api.ErrTruncated
	}
	u := uint64(0)
	for _, c := range b[at : at+keyBytes] {
		u = u<<8 | uint64(c)
	}
	return int64(u ^ signBit), at + keyBytes, api.OK
}

// Pack returns the word with generation in its upper half and index in its lower half.
func Pack(index, generation uint32) uint64 {
	return uint64(generation)<<32 | uint64(index)
}

// Unpack returns the index and the generation of a word.
func Unpack(h uint64) (uint32, uint32) {
	return uint32(h), uint32(h >> 32)
}

// Log2 returns the greatest n for which 2^n is at most u, or -1 if u is 0.
func Log2(u uint64) int {
	n := -1
	for u != 0 {
		n++
		u >>= 1
	}
	return n
}

// copyWithRoom returns a copy of b with room for some further bytes, so that appending to it never writes into b's memory.
func copyWithRoom(b []byte, room int) []byte {
	out := make([]byte, 0, len(b)+room)
	return append(out, b...)
}
