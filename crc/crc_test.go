package crc_test

import (
	"bytes"
	"hash/crc32"
	"math/rand"
	"slices"
	"testing"

	"rickyard/crc"
)

// Sums at the edges, and one whose octets are all unlike.
var sums = []uint32{0, 1, 15, 16, 255, 256, 0x7fffffff, 0x80000000, 0xe3069283, 0xfffffffe, 0xffffffff, 0x12345678}

// stepped is the document's own words for n steps of a register.
func stepped(x uint32, n int) uint32 {
	for range n {
		odd := x%2 == 1
		x /= 2
		if odd {
			x ^= 0x82f63b78
		}
	}
	return x
}

// led is the document's own words for octets that are taken by any table.
func led(t [16]uint32, sum uint32, b []byte) uint32 {
	x := sum ^ 0xffffffff
	for _, o := range b {
		x ^= uint32(o)
		for range 2 {
			rest := x % 16
			x /= 16
			x ^= t[rest]
		}
	}
	return x ^ 0xffffffff
}

// known is a sum worked out by another program's tables.
func known(b []byte) uint32 {
	return crc32.Checksum(b, crc32.MakeTable(crc32.Castagnoli))
}

// drawn answers n octets, the same ones for the same source.
func drawn(r *rand.Rand, n int) []byte {
	b := make([]byte, n)
	r.Read(b)
	return b
}

// texts are octets of all lengths up to some, and of a few greater ones.
func texts() [][]byte {
	r := rand.New(rand.NewSource(2))
	out := [][]byte{nil, {}, {0}, {255}, {0, 0, 0, 0}, {255, 255, 255, 255}, []byte("123456789"), bytes.Repeat([]byte{0}, 64), bytes.Repeat([]byte{255}, 64)}
	for n := range 70 {
		out = append(out, drawn(r, n))
	}
	return append(out, drawn(r, 1000), drawn(r, 4096))
}

// tables are the table and others, of any numbers.
func tables() [][16]uint32 {
	r := rand.New(rand.NewSource(3))
	all, places, wild := [16]uint32{}, [16]uint32{}, [16]uint32{}
	for i := range all {
		all[i], places[i], wild[i] = 0xffffffff, uint32(i), r.Uint32()
	}
	return [][16]uint32{crc.Table(), {}, all, places, wild}
}

// pieces cuts octets at random places, with empty and nil lists among them.
func pieces(r *rand.Rand, b []byte) [][]byte {
	out := [][]byte{nil}
	for len(b) > 0 {
		n := r.Intn(len(b) + 1)
		out = append(out, b[:n])
		b = b[n:]
	}
	return append(out, []byte{}, nil)
}

func TestTable(t *testing.T) { // P2.1
	got := crc.Table()
	if got[0] != 0 {
		t.Errorf("at 0: %x", got[0])
	}
	for i, x := range got {
		if want := stepped(uint32(i), 4); x != want {
			t.Errorf("at %d: %x, not %x", i, x, want)
		}
	}
}

func TestTableIsNew(t *testing.T) { // P2.1, P2.4
	first := crc.Table()
	for i := range first {
		first[i] = 7
	}
	if second := crc.Table(); second == first || second[8] != 0x82f63b78 {
		t.Errorf("changed by its caller: %x", second)
	}
	if got := crc.Sum([]byte("123456789")); got != 0xe3069283 {
		t.Errorf("a sum, changed by a table's caller: %x", got)
	}
}

func TestMore(t *testing.T) { // P2.1
	for _, table := range tables() {
		for _, sum := range sums {
			for _, b := range texts() {
				if got, want := crc.More(table, sum, b), led(table, sum, b); got != want {
					t.Fatalf("%x, %x, %d octets: %x, not %x", table, sum, len(b), got, want)
				}
			}
		}
	}
}

func TestMoreOfEachOctet(t *testing.T) { // P2.1
	for i := range 256 {
		for _, sum := range sums {
			want := ^stepped(^sum^uint32(i), 8)
			if got := crc.More(crc.Table(), sum, []byte{byte(i)}); got != want {
				t.Errorf("%x, %d: %x, not %x", sum, i, got, want)
			}
		}
	}
}

func TestMoreOfNothing(t *testing.T) { // P2.1
	for _, table := range tables() {
		for _, sum := range sums {
			if crc.More(table, sum, nil) != sum || crc.More(table, sum, []byte{}) != sum {
				t.Errorf("%x, %x", table, sum)
			}
		}
	}
}

func TestMoreByZeroes(t *testing.T) { // P2.1: a table of noughts only shifts
	for _, sum := range sums {
		b := []byte{1, 200, 3, 4}
		if got := crc.More([16]uint32{}, sum, b); got != 0xffffffff {
			t.Errorf("%x: %x", sum, got)
		}
	}
}

func TestSum(t *testing.T) { // P2.2
	if got := crc.Sum([]byte("123456789")); got != 0xe3069283 {
		t.Errorf("123456789: %x", got)
	}
	for _, b := range texts() {
		if got, want := crc.Sum(b), known(b); got != want {
			t.Errorf("%d octets: %x, not %x", len(b), got, want)
		}
	}
}

func TestSumOfNone(t *testing.T) { // P2.2
	for _, bs := range [][][]byte{nil, {}, {nil}, {{}}, {nil, nil}, {{}, nil, {}}} {
		if got := crc.Sum(bs...); got != 0 {
			t.Errorf("%v: %x", bs, got)
		}
		for _, sum := range sums {
			if got := crc.Fits(sum, bs...); got != (sum == 0) {
				t.Errorf("%v, %x: %v", bs, sum, got)
			}
		}
	}
}

func TestSumOfMany(t *testing.T) { // P2.2, P2.3
	r := rand.New(rand.NewSource(4))
	for _, b := range texts() {
		for range 10 {
			bs := pieces(r, b)
			if got := crc.Sum(bs...); got != known(b) {
				t.Errorf("%d octets in %d pieces: %x, not %x", len(b), len(bs), got, known(b))
			}
		}
		single := make([][]byte, len(b))
		for i := range b {
			single[i] = b[i : i+1]
		}
		if got := crc.Sum(single...); got != known(b) {
			t.Errorf("%d octets one by one: %x, not %x", len(b), got, known(b))
		}
	}
}

func TestSumMindsTheOrder(t *testing.T) { // P2.2
	a, b := []byte("1234"), []byte("56789")
	if crc.Sum(a, b) == crc.Sum(b, a) || crc.Sum(b, a) != known([]byte("567891234")) {
		t.Error("one behind the other")
	}
}

func TestFits(t *testing.T) { // P2.2
	r := rand.New(rand.NewSource(5))
	for _, b := range texts() {
		bs, sum := pieces(r, b), known(b)
		if !crc.Fits(sum, b) || !crc.Fits(sum, bs...) {
			t.Errorf("%d octets: %x doesn't fit", len(b), sum)
		}
		for i := range 32 {
			if wrong := sum ^ 1<<i; crc.Fits(wrong, b) || crc.Fits(wrong, bs...) {
				t.Errorf("%d octets: %x fits", len(b), wrong)
			}
		}
		if crc.Fits(^sum, b) {
			t.Errorf("%d octets: %x fits", len(b), ^sum)
		}
	}
}

func TestFitsAtTheEdges(t *testing.T) { // P2.2: octets of which the sum is 0, and ffffffff
	if whole := []byte{255, 255, 255, 255}; !crc.Fits(0xffffffff, whole) || crc.Fits(0, whole) {
		t.Errorf("ffffffff: %x", crc.Sum(whole))
	}
	whole := []byte{0xab, 0x9b, 0xe0, 0x9b} // brought to a register of all bits, which turned is 0
	if !crc.Fits(0, whole) || crc.Fits(0xffffffff, whole) {
		t.Errorf("0: %x", crc.Sum(whole))
	}
}

func TestMoreLeadsOn(t *testing.T) { // P2.3
	r := rand.New(rand.NewSource(6))
	for _, b := range texts() {
		for cut := 0; cut <= len(b); cut += 1 + len(b)/50 {
			if got := crc.More(crc.Table(), crc.Sum(b[:cut]), b[cut:]); got != known(b) {
				t.Errorf("%d octets cut at %d: %x, not %x", len(b), cut, got, known(b))
			}
		}
		sum := uint32(0)
		for _, p := range pieces(r, b) {
			sum = crc.More(crc.Table(), sum, p)
		}
		if sum != crc.Sum(b) {
			t.Errorf("%d octets in pieces: %x", len(b), sum)
		}
	}
}

func TestFourSums(t *testing.T) { // P2.4
	r := rand.New(rand.NewSource(7))
	for n := range 100 {
		a, b, c := drawn(r, n), drawn(r, n), drawn(r, n)
		all := make([]byte, n)
		for i := range all {
			all[i] = a[i] ^ b[i] ^ c[i]
		}
		if got := crc.Sum(a) ^ crc.Sum(b) ^ crc.Sum(c) ^ crc.Sum(all); got != 0 {
			t.Errorf("%d octets: %x", n, got)
		}
	}
}

// turned is b with the bits that are set in by turned, from the bit at on: the bits of an octet from the least one on.
func turned(b []byte, at int, by uint32) []byte {
	out := slices.Clone(b)
	for i := range 32 {
		if by>>i&1 == 1 {
			out[(at+i)/8] ^= 1 << ((at + i) % 8)
		}
	}
	return out
}

func TestThirtyTwoBits(t *testing.T) { // P2.4
	r := rand.New(rand.NewSource(8))
	for _, n := range []int{4, 5, 9, 64, 300} {
		b := drawn(r, n)
		sum := crc.Sum(b)
		for at := 0; at+32 <= 8*n; at++ {
			for _, by := range []uint32{1, 2, 3, 0x80000000, 0x80000001, 0xffffffff, 0x82f63b78, 0x05ec76f1, r.Uint32() | 1, r.Uint32() | 1} {
				if crc.Sum(turned(b, at, by)) == sum {
					t.Errorf("%d octets: %x turned at %d has the same sum", n, by, at)
				}
			}
		}
	}
}

func TestShortTextsAreUnlike(t *testing.T) { // P2.4: two octets, all of them
	seen := map[uint32]bool{}
	for i := range 1 << 16 {
		seen[crc.Sum([]byte{byte(i), byte(i >> 8)})] = true
	}
	if len(seen) != 1<<16 {
		t.Errorf("%d sums", len(seen))
	}
}

func TestArgumentsStay(t *testing.T) { // P2.4
	whole := []byte("123456789abcdefgh")
	was := slices.Clone(whole)
	a, b := whole[:4], whole[4:9]
	bs := [][]byte{a, nil, b, whole[9:9]}
	lists := slices.Clone(bs)
	table := crc.Table()
	for range 2 {
		if crc.Sum(bs...) != 0xe3069283 || !crc.Fits(0xe3069283, bs...) || crc.More(table, crc.Sum(a), b) != 0xe3069283 {
			t.Error("a sum")
		}
	}
	if !bytes.Equal(whole, was) || table != crc.Table() {
		t.Error("changed")
	}
	for i := range bs {
		if len(bs[i]) != len(lists[i]) || cap(bs[i]) != cap(lists[i]) || len(bs[i]) > 0 && &bs[i][0] != &lists[i][0] {
			t.Errorf("list %d was changed", i)
		}
	}
}

func TestNothingIsKept(t *testing.T) { // P2.4
	b := []byte("123456789")
	crc.Sum(b)
	b[0] = '9'
	if got := crc.Sum(b); got != known([]byte("923456789")) {
		t.Errorf("%x", got)
	}
	if got := crc.Sum(); got != 0 {
		t.Errorf("%x", got)
	}
}
