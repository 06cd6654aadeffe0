// Package vary is layer 1: see shared/doc/01-vary.md.
package vary

import "probate/api"

const (
	bitsOfByte = 7   // how many of a number's bits a byte holds
	more       = 128 // what each byte but the last one has on top
	mostBytes  = 10  // how many bytes the greatest number has
	mostOfLast = 1   // of 64 bits just one is left for the byte behind nine others
)

// Put tells a number's bytes.
func Put(n uint64) []byte {
	var out []byte
	for ; n >= more; n >>= bitsOfByte {
		out = append(out, byte(n%more)+more)
	}
	return append(out, byte(n))
}

// Take tells the number with which bytes begin, and how many bytes it has.
func Take(b []byte) (uint64, int, api.Errno) {
	var n uint64
	k := 0
taking:
	for {
		switch {
		case k == mostBytes: // ahead of the end: ten bytes that all go on are too many, not too few
			return 0, 0, api.ErrLong
		case k == len(b):
			return 0, 0, api.ErrShort
		case b[k] < more:
			break taking
		}
		n |= uint64(b[k]-more) << (bitsOfByte * k)
		k++
	}
	last := b[k]
	if k == mostBytes-1 && last > mostOfLast {
		return 0, 0, api.ErrLong
	}
	if k > 0 && last == 0 { // the same number has fewer bytes
		return 0, 0, api.ErrForm
	}
	return n | uint64(last)<<(bitsOfByte*k), k + 1, api.OK
}
