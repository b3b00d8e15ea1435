package octet_test

import (
	"bytes"
	"math"
	"slices"
	"testing"

	"rickyard/octet"
)

// Eight octets that are all unlike, so that an octet out of its place shows.
const mixed = uint64(0x8877665544332211)

var mixedOctets = []byte{0x11, 0x22, 0x33, 0x44, 0x55, 0x66, 0x77, 0x88}

var numbers = []uint64{0, 1, 127, 128, 255, 256, 258, 65535, 65536, 1<<32 - 1, 1 << 32, 1<<63 - 1, 1 << 63, 1<<64 - 1, mixed}

// Counts and places at and beyond all edges, the ones whose sum wraps round among them.
var odd = []int{math.MinInt, math.MinInt + 1, -1 << 32, -9, -8, -1, 0, 1, 2, 7, 8, 9, 10, 11, 12, 13, 16, 17, 1 << 32, 1 << 62, math.MaxInt - 8, math.MaxInt - 1, math.MaxInt}

// divided is the document's own words for a number's octets.
func divided(v uint64) []byte {
	var out []byte
	for range 8 {
		out = append(out, byte(v%256))
		v /= 256
	}
	return out
}

// summed is the document's own words for the number that octets are.
func summed(b []byte) uint64 {
	var v uint64
	times := uint64(1)
	for _, x := range b {
		v += uint64(x) * times
		times *= 256
	}
	return v
}

// has tells, without sums that could wrap round, whether l octets have n from at on.
func has(l, at, n int) bool {
	for i := 0; i <= l; i++ {
		for j := i; j <= l; j++ {
			if i == at && j-i == n {
				return true
			}
		}
	}
	return false
}

// roomy answers a list with spare room behind it, and the whole of its memory.
func roomy(b []byte) (list, whole []byte) {
	whole = append(slices.Clone(b), 0xa5, 0xa5, 0xa5, 0xa5, 0xa5, 0xa5, 0xa5, 0xa5, 0xa5)
	return whole[:len(b)], whole
}

func TestLay(t *testing.T) { // P1.1
	if got := octet.Lay(258, 3); !bytes.Equal(got, []byte{2, 1, 0}) {
		t.Errorf("258, 3: %v", got)
	}
	for _, v := range numbers {
		for n := 0; n <= 8; n++ {
			if got := octet.Lay(v, n); !bytes.Equal(got, divided(v)[:n]) {
				t.Errorf("%x, %d: %v", v, n, got)
			}
		}
		for _, n := range odd {
			if got := octet.Lay(v, n); (n < 0 || n > 8) && len(got) != 0 {
				t.Errorf("%x, %d: %v", v, n, got)
			}
		}
	}
}

func TestRead(t *testing.T) { // P1.1
	if octet.Read(nil) != 0 || octet.Read([]byte{}) != 0 {
		t.Error("a number of none")
	}
	if got := octet.Read(mixedOctets); got != mixed {
		t.Errorf("%x", got)
	}
	for n := 0; n <= 8; n++ {
		if got := octet.Read(mixedOctets[:n]); got != summed(mixedOctets[:n]) {
			t.Errorf("%d octets: %x", n, got)
		}
	}
	for _, more := range [][]byte{{1}, {255}, {1, 2, 3}, mixedOctets, make([]byte, 100)} {
		if got := octet.Read(append(slices.Clone(mixedOctets), more...)); got != mixed {
			t.Errorf("and %v: %x", more, got)
		}
	}
}

func TestGet(t *testing.T) { // P1.2
	if v, ok := octet.Get([]byte{9, 2, 1, 9}, 1, 2); v != 258 || !ok {
		t.Errorf("%d %v", v, ok)
	}
	long := append(slices.Clone(mixedOctets), 0x99, 0xaa, 0xbb, 0xcc)
	for l := 0; l <= len(long); l++ {
		b := long[:l]
		for _, at := range odd {
			for _, n := range odd {
				want, wantOK := uint64(0), n >= 1 && n <= 8 && has(l, at, n)
				if wantOK {
					want = summed(b[at : at+n])
				}
				if v, ok := octet.Get(b, at, n); v != want || ok != wantOK {
					t.Errorf("of %d octets, %d, %d: %x %v", l, at, n, v, ok)
				}
			}
		}
	}
	if _, ok := octet.Get(nil, 0, 1); ok {
		t.Error("of nil")
	}
}

func TestPut(t *testing.T) { // P1.2
	long := append(slices.Clone(mixedOctets), 0x99, 0xaa, 0xbb, 0xcc)
	for l := 0; l <= len(long); l++ {
		for _, at := range odd {
			for _, n := range odd {
				for _, v := range []uint64{0, 0xf1e2d3c4b5a69788} {
					putOne(t, long[:l], at, n, v)
				}
			}
		}
	}
	if c, ok := octet.Put(nil, 0, 1, 7); ok || len(c) != 0 {
		t.Error("into nil")
	}
}

func putOne(t *testing.T, was []byte, at, n int, v uint64) {
	t.Helper()
	var want []byte
	wantOK := n >= 1 && n <= 8 && has(len(was), at, n)
	if wantOK {
		want = slices.Concat(was[:at], divided(v)[:n], was[at+n:])
	}
	if got, ok := octet.Put(was, at, n, v); !bytes.Equal(got, want) || ok != wantOK {
		t.Errorf("into %v, %d, %d, %x: %v %v", was, at, n, v, got, ok)
	}
}

func TestNoughts(t *testing.T) { // P1.2
	long := []byte{0, 0, 3, 0, 0, 0, 0, 0, 0, 0, 0, 0, 128}
	for l := 0; l <= len(long); l++ {
		for _, at := range odd {
			for _, n := range odd {
				want := has(l, at, n)
				if want {
					for _, x := range long[at : at+n] {
						want = want && x == 0
					}
				}
				if got := octet.Noughts(long[:l], at, n); got != want {
					t.Errorf("of %d octets, %d, %d: %v", l, at, n, got)
				}
			}
		}
	}
	if !octet.Noughts(nil, 0, 0) || octet.Noughts(nil, 0, 1) || octet.Noughts(nil, 1, 0) || octet.Noughts(nil, -1, 0) {
		t.Error("of nil")
	}
	if !octet.Noughts(make([]byte, 100), 0, 100) || octet.Noughts(make([]byte, 100), 1, 100) {
		t.Error("of a hundred")
	}
	b := make([]byte, 20)
	b[19] = 1
	if !octet.Noughts(b, 0, 19) || octet.Noughts(b, 0, 20) {
		t.Error("more than eight")
	}
}

func TestWords(t *testing.T) { // P1.3
	three := slices.Concat(mixedOctets, []byte{1, 0, 0, 0, 0, 0, 0, 0}, []byte{0, 0, 0, 0, 0, 0, 0, 128})
	want := []uint64{mixed, 1, 1 << 63}
	for l := 0; l <= len(three); l++ {
		if got := octet.Words(three[:l]); !slices.Equal(got, want[:l/8]) {
			t.Errorf("of %d octets: %x", l, got)
		}
	}
	if len(octet.Words(nil)) != 0 || len(octet.Words([]byte{})) != 0 {
		t.Error("of none")
	}
}

func TestOctets(t *testing.T) { // P1.3
	if got := octet.Octets(1); !bytes.Equal(got, []byte{1, 0, 0, 0, 0, 0, 0, 0}) {
		t.Errorf("1: %v", got)
	}
	if len(octet.Octets()) != 0 || len(octet.Octets([]uint64{}...)) != 0 || len(octet.Octets([]uint64(nil)...)) != 0 {
		t.Error("of none")
	}
	var want []byte
	for i, v := range numbers {
		want = append(want, divided(v)...)
		if got := octet.Octets(numbers[:i+1]...); !bytes.Equal(got, want) {
			t.Errorf("%x: %v", numbers[:i+1], got)
		}
	}
}

func TestThereAndBack(t *testing.T) { // P1.4
	for _, v := range numbers {
		for n := 1; n <= 8; n++ {
			low := v
			if n < 8 {
				low = v % (1 << (8 * n))
			}
			if got := octet.Read(octet.Lay(v, n)); got != low {
				t.Errorf("%x laid in %d: %x", v, n, got)
			}
			b := bytes.Repeat([]byte{0x5a}, 20)
			for at := 0; at+n <= len(b); at++ {
				c, _ := octet.Put(b, at, n, v)
				if got, ok := octet.Get(c, at, n); got != low || !ok {
					t.Errorf("%x put at %d in %d: %x %v", v, at, n, got, ok)
				}
				if len(c) != 20 || !bytes.Equal(c[:at], b[:at]) || !bytes.Equal(c[at+n:], b[at+n:]) {
					t.Errorf("%x put at %d in %d changed others: %v", v, at, n, c)
				}
			}
		}
	}
	if got := octet.Words(octet.Octets(numbers...)); !slices.Equal(got, numbers) {
		t.Errorf("words of octets: %x", got)
	}
	whole := slices.Concat(mixedOctets, mixedOctets)
	if got := octet.Octets(octet.Words(whole)...); !bytes.Equal(got, whole) {
		t.Errorf("octets of words: %v", got)
	}
}

func TestHandedInStays(t *testing.T) { // P1.4
	b, whole := roomy(mixedOctets)
	was := slices.Clone(whole)
	octet.Read(b)
	octet.Get(b, 1, 4)
	octet.Noughts(b, 1, 4)
	octet.Words(b)
	for at := 0; at < 8; at++ {
		octet.Put(b, at, 8-at, 0)
		octet.Put(b, at, 8, 0)
	}
	if !bytes.Equal(whole, was) {
		t.Errorf("octets: %v", whole)
	}
	ws := append(slices.Clone(numbers), 5, 6)
	octet.Octets(ws[:len(numbers)]...)
	if !slices.Equal(ws, append(slices.Clone(numbers), 5, 6)) {
		t.Errorf("numbers: %x", ws)
	}
}

// Every answer is spoilt, its spare room too, and every argument behind the call: neither may show in the other, or in a later answer.
func TestNewMemory(t *testing.T) { // P1.4
	b, whole := roomy(mixedOctets)
	c, _ := octet.Put(b, 0, 1, 0x11)
	spoil(c)
	same, _ := octet.Put(b, 0, 1, 0x11)
	ws := octet.Words(b)
	list := []uint64{mixed, 1}
	os := octet.Octets(list...)
	first := octet.Lay(mixed, 8)
	spoil(first)
	if !bytes.Equal(b, mixedOctets) || whole[8] != 0xa5 {
		t.Errorf("an answer is its argument: %v", whole)
	}
	spoil(whole)
	list[0], list[1] = 0, 0
	if !bytes.Equal(same, mixedOctets) || !slices.Equal(ws, []uint64{mixed}) || !bytes.Equal(os[:8], mixedOctets) {
		t.Errorf("an argument was kept: %v %x %v", same, ws, os)
	}
	spoil(os)
	ws[0] = 0
	again := octet.Octets(mixed, 1)
	if !bytes.Equal(again[:8], mixedOctets) || !bytes.Equal(octet.Lay(mixed, 8), mixedOctets) || octet.Words(mixedOctets)[0] != mixed {
		t.Error("an answer is a later one")
	}
}

func spoil(b []byte) {
	b = b[:cap(b)]
	for i := range b {
		b[i] ^= 0xff
	}
}
