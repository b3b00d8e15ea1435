package block_test

import (
	"bytes"
	"encoding/binary"
	"hash/crc32"
	"math"
	"math/rand"
	"testing"

	"rickyard/block"
)

// laid are 64 octets by the document's own words, with the right sum, whatever the rest is: known of another program's tables.
func laid(kind, tag, spare, next byte, body []byte) []byte {
	rest := append([]byte{kind, tag, spare, next}, body...)
	for len(rest) < 60 {
		rest = append(rest, 0)
	}
	return summed(rest)
}

// summed are octets with their sum ahead of them.
func summed(rest []byte) []byte {
	sum := crc32.Checksum(rest, crc32.MakeTable(crc32.Castagnoli))
	return append(binary.LittleEndian.AppendUint32(nil, sum), rest...)
}

// isBlock is the document's own words for octets that are a block.
func isBlock(b []byte) bool {
	if len(b) != 64 {
		return false
	}
	return b[4] >= 1 && bytes.Equal(b, laid(b[4], b[5], 0, 0, b[8:]))
}

// drawn answers n octets, the same ones for the same source.
func drawn(r *rand.Rand, n int) []byte {
	b := make([]byte, n)
	r.Read(b)
	return b
}

// bodies are octets of each length that a body may have, with noughts at the end of some.
func bodies() [][]byte {
	r := rand.New(rand.NewSource(7))
	out := [][]byte{nil, {}, {0}, {255}, {1, 0}, {0, 1, 0, 0}, make([]byte, 55), make([]byte, 56), bytes.Repeat([]byte{255}, 56)}
	for n := range 57 {
		out = append(out, drawn(r, n), append(drawn(r, n/2), make([]byte, n-n/2)...))
	}
	return out
}

// none fails if octets are told as a block.
func none(t *testing.T, why string, b []byte) {
	t.Helper()
	kind, tag, body, ok := block.Open(b)
	if ok || kind != 0 || tag != 0 || len(body) != 0 {
		t.Errorf("%s: opened: %d, %d, %x, %v", why, kind, tag, body, ok)
	}
	if kind := block.Kind(b); kind != 0 {
		t.Errorf("%s: kind %d", why, kind)
	}
}

// opened fails if octets aren't told as that block.
func opened(t *testing.T, b []byte, kind, tag int, body []byte) {
	t.Helper()
	whole := append(bytes.Clone(body), make([]byte, 56-len(body))...)
	k, tg, got, ok := block.Open(b)
	if !ok || k != kind || tg != tag || !bytes.Equal(got, whole) {
		t.Errorf("%d, %d, %x: opened: %d, %d, %x, %v", kind, tag, whole, k, tg, got, ok)
	}
	if k := block.Kind(b); k != kind {
		t.Errorf("kind %d: %d", kind, k)
	}
}

func TestSeal(t *testing.T) { // P7.1
	for _, body := range bodies() {
		for _, kind := range []int{1, 2, 7, 128, 254, 255} {
			for _, tag := range []int{0, 1, 127, 128, 254, 255} {
				b, ok := block.Seal(kind, tag, body)
				if want := laid(byte(kind), byte(tag), 0, 0, body); !ok || !bytes.Equal(b, want) {
					t.Fatalf("%d, %d, %x: %x, %v, not %x", kind, tag, body, b, ok, want)
				}
			}
		}
	}
}

func TestSealOctetByOctet(t *testing.T) { // P7.1: the sum written out, of the 60 octets behind it, the least octet first
	b, ok := block.Seal(3, 200, []byte("body"))
	want := append([]byte{0xce, 0x75, 0x3e, 0x2c, 3, 200, 0, 0, 'b', 'o', 'd', 'y'}, make([]byte, 52)...)
	if !ok || !bytes.Equal(b, want) {
		t.Errorf("%x, %v", b, ok)
	}
}

func TestSealAllKindsAndTags(t *testing.T) { // P7.1, P7.2, P7.3
	body := []byte{9, 0, 8}
	for kind := 1; kind <= 255; kind++ {
		for tag := range 256 {
			b, ok := block.Seal(kind, tag, body)
			if !ok {
				t.Fatalf("%d, %d: none", kind, tag)
			}
			opened(t, b, kind, tag, body)
		}
	}
}

func TestSealNone(t *testing.T) { // P7.1
	for _, c := range []struct{ kind, tag, length int }{
		{0, 0, 1},
		{256, 0, 1},
		{257, 0, 1}, // one that an octet would make 1
		{-1, 0, 1},
		{-255, 0, 1},
		{math.MinInt, 0, 1},
		{math.MinInt + 1, 0, 1},
		{math.MaxInt, 0, 1},
		{1 << 32, 0, 1},
		{1<<32 + 1, 0, 1},
		{1, -1, 1},
		{1, 256, 1},
		{1, 257, 1},
		{255, -256, 1},
		{1, math.MinInt, 1},
		{1, math.MaxInt, 1},
		{1, 1 << 32, 1},
		{1, 0, 57},
		{255, 255, 58},
		{1, 1, 64},
		{1, 1, 312}, // 56, were lengths octets
		{1, 1, 100000},
		{0, -1, 57},
		{0, 0, 0},
		{256, 256, 0},
		{math.MinInt, math.MinInt, 57},
		{math.MaxInt, math.MaxInt, 57},
	} {
		if b, ok := block.Seal(c.kind, c.tag, make([]byte, c.length)); ok || len(b) != 0 {
			t.Errorf("%v: %x, %v", c, b, ok)
		}
	}
	if b, ok := block.Seal(0, 0, nil); ok || len(b) != 0 {
		t.Errorf("nil: %x, %v", b, ok)
	}
}

func TestOpen(t *testing.T) { // P7.2: octets that the test laid, not Seal
	for i, body := range bodies() {
		opened(t, laid(byte(1+i), byte(255-i), 0, 0, body), 1+i, 255-i, body)
	}
	for _, edge := range [][2]int{{1, 0}, {1, 255}, {255, 0}, {255, 255}} {
		opened(t, laid(byte(edge[0]), byte(edge[1]), 0, 0, nil), edge[0], edge[1], nil)
	}
}

func TestOpenNone(t *testing.T) { // P7.2
	whole := laid(7, 9, 0, 0, []byte("a body"))
	long := bytes.Repeat(whole, 2)
	none(t, "nil", nil)
	none(t, "64 noughts", make([]byte, 64)) // the chapter's example
	none(t, "64 octets of 255", bytes.Repeat([]byte{255}, 64))
	for n := range long {
		if n != 64 {
			none(t, "the first ones alone", long[:n])
		}
	}
	none(t, "ahead of it", append([]byte{0}, whole...))
	none(t, "two blocks", long)
	none(t, "spare room that would fill it", whole[:63:64])
}

func TestOpenNoneOfRightSum(t *testing.T) { // P7.2: of these the sum alone is right
	for _, body := range bodies() {
		for _, tag := range []byte{0, 1, 255} {
			none(t, "kind 0", laid(0, tag, 0, 0, body))
			for _, spare := range []byte{1, 128, 255} {
				none(t, "the first nought", laid(1, tag, spare, 0, body))
				none(t, "the second nought", laid(1, tag, 0, spare, body))
				none(t, "both noughts", laid(255, tag, spare, spare, body))
				none(t, "kind 0 and a nought", laid(0, tag, spare, 0, body))
			}
		}
	}
}

func TestOpenNoneOfRightSumOtherwiseLong(t *testing.T) { // P7.2
	rest := append([]byte{1, 2, 0, 0}, drawn(rand.New(rand.NewSource(13)), 300)...)
	for n := range rest {
		if n != 60 {
			none(t, "as long as that", summed(rest[:n]))
		}
	}
	opened(t, summed(rest[:60]), 1, 2, rest[4:60])
}

// TestOpenNoneOfRightSumElsewhere has octets whose sum would fit if it were of others, or laid another way.
func TestOpenNoneOfRightSumElsewhere(t *testing.T) { // P7.2
	whole := laid(7, 9, 0, 0, []byte("a body"))
	table := crc32.MakeTable(crc32.Castagnoli)
	for why, sum := range map[string]uint32{
		"another table":    crc32.ChecksumIEEE(whole[4:]),
		"of the body":      crc32.Checksum(whole[8:], table),
		"without the kind": crc32.Checksum(whole[5:], table),
		"not to the end":   crc32.Checksum(whole[4:63], table),
		"of all":           crc32.Checksum(append(make([]byte, 4), whole[4:]...), table),
		"turned":           ^crc32.Checksum(whole[4:], table),
		"none":             0,
	} {
		none(t, why, append(binary.LittleEndian.AppendUint32(nil, sum), whole[4:]...))
	}
	none(t, "the greatest octet first", append([]byte{whole[3], whole[2], whole[1], whole[0]}, whole[4:]...))
}

func TestThereAndBack(t *testing.T) { // P7.3
	r := rand.New(rand.NewSource(8))
	for _, body := range bodies() {
		kind, tag := 1+r.Intn(255), r.Intn(256)
		b, ok := block.Seal(kind, tag, body)
		if !ok {
			t.Fatalf("%d, %d, %x: none", kind, tag, body)
		}
		opened(t, b, kind, tag, body)
		k, tg, got, _ := block.Open(b)
		if again, ok := block.Seal(k, tg, got); !ok || !bytes.Equal(again, b) {
			t.Errorf("%x: again %x, %v", b, again, ok)
		}
	}
}

// blocks are some whose octets are unlike.
func blocks() [][]byte {
	r := rand.New(rand.NewSource(9))
	return [][]byte{
		laid(1, 0, 0, 0, nil),
		laid(255, 255, 0, 0, bytes.Repeat([]byte{255}, 56)),
		laid(4, 7, 0, 0, drawn(r, 56)),
		laid(128, 1, 0, 0, drawn(r, 30)),
	}
}

// turned is a copy of which the bits from at on are turned that a pattern names; an octet's bits from the least one on.
func turned(b []byte, at int, pattern uint64) []byte {
	out := bytes.Clone(b)
	for ; pattern != 0; at, pattern = at+1, pattern/2 {
		if pattern%2 == 1 {
			out[at/8] ^= 1 << (at % 8)
		}
	}
	return out
}

func TestTurnedOctets(t *testing.T) { // P7.3: each octet by itself, to each other one
	for _, b := range blocks() {
		for at := range b {
			for by := 1; by < 256; by++ {
				none(t, "an octet turned", turned(b, 8*at, uint64(by)))
			}
		}
	}
}

// turnedRuns turns n bits side by side at each place from first up to end: all of them, and the two at the ends with any between.
func turnedRuns(t *testing.T, b []byte, r *rand.Rand, n, first, end int) {
	t.Helper()
	ends := uint64(1) | 1<<(n-1)
	all := uint64(1)<<n - 1
	for at := first; at+n <= end; at++ {
		for _, pattern := range []uint64{all, ends, (ends | r.Uint64()) & all} {
			none(t, "bits turned", turned(b, at, pattern))
		}
	}
}

func TestTurnedBits(t *testing.T) { // P7.3
	r := rand.New(rand.NewSource(10))
	for _, b := range blocks() {
		for n := 1; n <= 32; n++ {
			turnedRuns(t, b, r, n, 0, 32)   // within the sum
			turnedRuns(t, b, r, n, 32, 512) // behind it
		}
	}
}

// kept is octets with spare room on both sides, all of them marked, and what the whole room was.
func kept(b []byte) (inner, room, was []byte) {
	room = append(bytes.Repeat([]byte{170}, 8), b...)
	room = append(room, bytes.Repeat([]byte{170}, 100)...)
	return room[8 : 8+len(b)], room, bytes.Clone(room)
}

func TestHandedInStays(t *testing.T) { // P7.3
	for _, body := range append(bodies(), make([]byte, 57)) {
		inner, room, was := kept(body)
		for _, kind := range []int{0, 1, 255, 256} {
			block.Seal(kind, 3, inner)
		}
		if !bytes.Equal(room, was) {
			t.Errorf("Seal changed %x to %x", was, room)
		}
	}
	for _, b := range append(blocks(), nil, make([]byte, 63), make([]byte, 64), make([]byte, 65), laid(0, 1, 0, 0, nil)) {
		inner, room, was := kept(b)
		block.Open(inner)
		block.Kind(inner)
		if !bytes.Equal(room, was) {
			t.Errorf("Open or Kind changed %x to %x", was, room)
		}
	}
}

// spoil fills octets and their spare room.
func spoil(b []byte) {
	b = b[:cap(b)]
	for i := range b {
		b[i] = 85
	}
}

func TestSealedIsNew(t *testing.T) { // P7.3: neither changed with what was handed in, nor with another answer
	for _, n := range []int{0, 1, 55, 56} {
		body := drawn(rand.New(rand.NewSource(11)), n)
		want := laid(5, 6, 0, 0, body)
		inner, room, was := kept(body)
		first, _ := block.Seal(5, 6, inner)
		second, _ := block.Seal(5, 6, inner)
		spoil(second)
		if !bytes.Equal(room, was) || !bytes.Equal(first, want) {
			t.Errorf("%d octets: shared with an answer", n)
		}
		spoil(room)
		if !bytes.Equal(first, want) {
			t.Errorf("%d octets: the body was kept", n)
		}
		if third, _ := block.Seal(5, 6, body); !bytes.Equal(third, want) {
			t.Errorf("%d octets: changed by a caller: %x", n, third)
		}
	}
}

func TestOpenedIsNew(t *testing.T) { // P7.3
	for _, b := range blocks() {
		inner, room, was := kept(b)
		_, _, first, _ := block.Open(inner)
		_, _, second, _ := block.Open(inner)
		spoil(second)
		if !bytes.Equal(room, was) || !bytes.Equal(first, b[8:]) {
			t.Errorf("%x: shared with an answer", b)
		}
		spoil(room)
		if !bytes.Equal(first, b[8:]) {
			t.Errorf("%x: the octets were kept", b)
		}
		none(t, "spoilt", inner)
		opened(t, b, int(b[4]), int(b[5]), b[8:])
	}
}

// held fails if octets aren't told as the document's own words tell them.
func held(t *testing.T, b []byte) {
	t.Helper()
	if !isBlock(b) {
		none(t, "by its words", b)
		return
	}
	opened(t, b, int(b[4]), int(b[5]), b[8:])
}

func TestModel(t *testing.T) { // P7.1 to P7.3
	r := rand.New(rand.NewSource(12))
	for range 20000 {
		kind, tag, body := r.Intn(260)-2, r.Intn(260)-2, drawn(r, r.Intn(60))
		right := kind >= 1 && kind <= 255 && tag >= 0 && tag <= 255 && len(body) <= 56
		b, ok := block.Seal(kind, tag, body)
		if ok != right || !ok && len(b) != 0 {
			t.Fatalf("%d, %d, %d octets: %x, %v", kind, tag, len(body), b, ok)
		}
		held(t, b)
		held(t, laid(byte(kind), byte(tag), byte(r.Intn(2)), byte(r.Intn(2)), body))
		if ok {
			opened(t, b, kind, tag, body)
			held(t, turned(b, r.Intn(448), r.Uint64()))
		}
	}
}

func FuzzBlock(f *testing.F) { // P7.1 to P7.3
	f.Add(1, 0, []byte{})
	f.Add(255, 255, bytes.Repeat([]byte{255}, 56))
	f.Add(0, 256, make([]byte, 57))
	f.Add(math.MinInt, math.MaxInt, laid(3, 4, 0, 0, nil))
	f.Fuzz(func(t *testing.T, kind, tag int, b []byte) {
		held(t, b)
		sealed, ok := block.Seal(kind, tag, b)
		if right := kind >= 1 && kind <= 255 && tag >= 0 && tag <= 255 && len(b) <= 56; ok != right {
			t.Fatalf("%d, %d, %d octets: %v", kind, tag, len(b), ok)
		}
		if ok {
			opened(t, sealed, kind, tag, b)
		} else {
			none(t, "not sealed", sealed)
		}
	})
}
