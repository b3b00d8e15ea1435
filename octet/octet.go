// Package octet is layer 1: see shared/doc/01-octet.md.
package octet

import "rickyard/api"

// Lay is a number's first octets.
func Lay(v uint64, n int) []byte {
	if n < 0 || n > api.Word {
		return nil
	}
	out := make([]byte, n)
	for i := range out {
		out[i] = byte(v >> (8 * i))
	}
	return out
}

// Read is the number that octets are.
func Read(b []byte) uint64 {
	var v uint64
	for i := 0; i < len(b) && i < api.Word; i++ {
		v |= uint64(b[i]) << (8 * i)
	}
	return v
}

// within tells whether b has n octets from at on. The rest behind at is what n is held against: at+n might wrap round.
func within(b []byte, at, n int) bool {
	return at >= 0 && at <= len(b) && n >= 0 && n <= len(b)-at
}

// numbered tells whether b has n octets from at on that are a number's.
func numbered(b []byte, at, n int) bool {
	return n >= 1 && n <= api.Word && within(b, at, n)
}

// Get is the number at a place.
func Get(b []byte, at, n int) (uint64, bool) {
	if !numbered(b, at, n) {
		return 0, false
	}
	return Read(b[at : at+n]), true
}

// Put is a copy with a number at a place.
func Put(b []byte, at, n int, v uint64) ([]byte, bool) {
	if !numbered(b, at, n) {
		return nil, false
	}
	out := make([]byte, len(b))
	copy(out, b)
	copy(out[at:], Lay(v, n))
	return out, true
}

// Noughts tells whether octets are there, and 0.
func Noughts(b []byte, at, n int) bool {
	if !within(b, at, n) {
		return false
	}
	for _, x := range b[at : at+n] {
		if x != 0 {
			return false
		}
	}
	return true
}

// Words are the numbers of all octets.
func Words(b []byte) []uint64 {
	out := make([]uint64, len(b)/api.Word)
	for i := range out {
		out[i] = Read(b[api.Word*i:])
	}
	return out
}

// Octets are those of all numbers.
func Octets(ws ...uint64) []byte {
	out := make([]byte, api.Word*len(ws))
	for i, w := range ws {
		copy(out[api.Word*i:], Lay(w, api.Word))
	}
	return out
}
