// Package bits is layer 1: see shared/doc/01-bits.md.
package bits

import "casemate/api"

// perByte is how many bits a byte has.
const perByte = 8

// has: is there a bit i? It divides i, as eight times a length could wrap round.
func has(b []byte, i int) bool { return i >= 0 && i/perByte < len(b) }

// bit: the bit k of one byte, 0 or 1.
func bit(c byte, k int) int { return int(c>>k) & 1 }

// At: a bit.
func At(b []byte, i int) (int, api.Errno) {
	if !has(b, i) {
		return 0, api.ErrArg
	}
	return bit(b[i/perByte], i%perByte), api.OK
}

// Turn: bits are turned.
func Turn(b []byte, places []int) ([]byte, api.Errno) {
	out := make([]byte, len(b))
	copy(out, b)
	for _, p := range places {
		if !has(out, p) {
			return nil, api.ErrArg
		}
		out[p/perByte] ^= 1 << (p % perByte)
	}
	return out, api.OK
}

// Ones: how many are 1.
func Ones(b []byte) int {
	n := 0
	for _, c := range b {
		for k := range perByte {
			n += bit(c, k)
		}
	}
	return n
}

// Apart: where two are unlike.
func Apart(a []byte, b []byte) ([]int, api.Errno) {
	if len(a) != len(b) {
		return nil, api.ErrArg
	}
	var out []int
	for i := range a {
		unlike := a[i] ^ b[i]
		for k := range perByte {
			if bit(unlike, k) == 1 {
				out = append(out, i*perByte+k)
			}
		}
	}
	return out, api.OK
}
