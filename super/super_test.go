package super_test

import (
	"bytes"
	"encoding/binary"
	"encoding/hex"
	"fmt"
	"hash/crc32"
	"math"
	"math/rand"
	"slices"
	"strings"
	"testing"

	"rickyard/api"
	"rickyard/block"
	"rickyard/geom"
	"rickyard/super"
)

// superOf is a superblock of these numbers, in the order in which a body has them.
func superOf(epoch, blocks, slots, gens, high, free, top, dir int, charts ...int) api.Super {
	var s api.Super
	s.Epoch, s.Blocks, s.Slots, s.Gens, s.High, s.Free, s.Top, s.Dir, s.Charts = epoch, blocks, slots, gens, high, free, top, dir, charts
	return s
}

// chartsOf is how many charts tell of so many blocks: gone through by their first blocks.
func chartsOf(blocks int) int {
	n := 0
	for first := 0; first < blocks; first += 384 {
		n++
	}
	return n
}

// rising are n numbers from first on.
func rising(first, n int) []int {
	var out []int
	for i := range n {
		out = append(out, first+i)
	}
	return out
}

// first is what a yard of so many blocks begins with.
func first(blocks int) api.Super {
	return superOf(1, blocks, 1, 1, 0, 0, 0, 0, rising(2, chartsOf(blocks))...)
}

// used is one of so many blocks, in which much was done; it has no two numbers alike but for those of Blocks.
func used(blocks int) api.Super {
	charts := rising(blocks-chartsOf(blocks), chartsOf(blocks))
	slices.Reverse(charts)
	return superOf(258, blocks, 1500, 70000, 1030, 515, 6, 7, charts...)
}

// last has all that is greatest.
func last() api.Super {
	return superOf(1<<62, 3072, 1792, 4294967295, 1792, 1792, 3071, 3070, 3071, 3070, 3069, 3068, 3067, 3066, 3065, 3064)
}

// edgesOfBlocks are right numbers of Blocks: the least and the greatest, and those at which there is another chart.
func edgesOfBlocks() []int {
	return []int{16, 17, 383, 384, 385, 768, 769, 1152, 1153, 2304, 2305, 2688, 2689, 3071, 3072}
}

// cut is the least number that two octets don't hold: of those behind it they have but the rest.
const cut = 1 << 16

// field is a number of a superblock.
type field struct {
	name string
	of   func(s *api.Super) *int
}

// fields are all that a superblock has but for the Charts.
func fields() []field {
	return []field{
		{"Epoch", func(s *api.Super) *int { return &s.Epoch }},
		{"Blocks", func(s *api.Super) *int { return &s.Blocks }},
		{"Slots", func(s *api.Super) *int { return &s.Slots }},
		{"Gens", func(s *api.Super) *int { return &s.Gens }},
		{"High", func(s *api.Super) *int { return &s.High }},
		{"Free", func(s *api.Super) *int { return &s.Free }},
		{"Top", func(s *api.Super) *int { return &s.Top }},
		{"Dir", func(s *api.Super) *int { return &s.Dir }},
	}
}

// fieldsOf are these, and each of the Charts.
func fieldsOf(s api.Super) []field {
	out := fields()
	for i := range s.Charts {
		out = append(out, field{fmt.Sprintf("Charts[%d]", i), func(s *api.Super) *int { return &s.Charts[i] }})
	}
	return out
}

// with is a superblock with another number in one field; its Charts are its own.
func with(s api.Super, f field, v int) api.Super {
	s.Charts = slices.Clone(s.Charts)
	*f.of(&s) = v
	return s
}

// charted is a superblock with other Charts.
func charted(s api.Super, charts ...int) api.Super {
	s.Charts = charts
	return s
}

// isRight is the document's own words for a right superblock.
func isRight(s api.Super) bool {
	block := func(at int) bool { return at >= 2 && at <= s.Blocks-1 }
	if s.Epoch < 1 || s.Epoch > 4611686018427387904 {
		return false
	}
	if s.Blocks < 16 || s.Blocks > 3072 || s.Slots < 1 || s.Slots > 1792 || s.Gens < 1 || s.Gens > 4294967295 {
		return false
	}
	if s.High < 0 || s.High > s.Slots || s.Free < 0 || s.Free > s.High {
		return false
	}
	if s.High == 0 && s.Top != 0 || s.High > 0 && !block(s.Top) {
		return false
	}
	if s.Dir != 0 && !block(s.Dir) {
		return false
	}
	if len(s.Charts) != chartsOf(s.Blocks) {
		return false
	}
	for i, a := range s.Charts {
		for j, b := range s.Charts {
			if !block(a) || i != j && a == b {
				return false
			}
		}
	}
	return true
}

// blockOf are 64 octets of any kind and tag, with the right sum: known of another program's tables.
func blockOf(kind, tag int, body []byte) []byte {
	rest := make([]byte, 60)
	rest[0], rest[1] = byte(kind), byte(tag)
	copy(rest[4:], body)
	sum := crc32.Checksum(rest, crc32.MakeTable(crc32.Castagnoli))
	return append(binary.LittleEndian.AppendUint32(nil, sum), rest...)
}

// bodyOf is a body by the document's own words, without the noughts, whatever the numbers are.
func bodyOf(s api.Super) []byte {
	b := binary.LittleEndian.AppendUint64(nil, uint64(s.Epoch))
	for _, n := range []int{s.Blocks, s.Slots, s.Gens, s.High, s.Free} {
		b = binary.LittleEndian.AppendUint32(b, uint32(n))
	}
	for _, n := range append([]int{s.Top, s.Dir}, s.Charts...) {
		b = binary.LittleEndian.AppendUint16(b, uint16(n))
	}
	return b
}

// laid is a superblock's block by the document's own words, with the right sum, whatever the numbers are.
func laid(s api.Super) []byte {
	return blockOf(7, len(s.Charts), bodyOf(s))
}

// fits tells whether a superblock's numbers have room in a block, so that none is cut.
func fits(s api.Super) bool {
	for _, n := range []int{s.Blocks, s.Slots, s.Gens, s.High, s.Free} {
		if n < 0 || n > 1<<32-1 {
			return false
		}
	}
	for _, n := range append([]int{s.Top, s.Dir}, s.Charts...) {
		if n < 0 || n > 1<<16-1 {
			return false
		}
	}
	return len(s.Charts) <= 12
}

// alike is the document's own words for superblocks that are the same: number by number.
func alike(a, b api.Super) bool {
	if len(a.Charts) != len(b.Charts) {
		return false
	}
	for _, f := range fieldsOf(a) {
		if *f.of(&a) != *f.of(&b) {
			return false
		}
	}
	return true
}

// none fails if octets are told as a superblock.
func none(t *testing.T, why string, b []byte) {
	t.Helper()
	if s, ok := super.Get(b); ok || s.Epoch != 0 || s.Tickets != (api.Tickets{}) || s.Dir != 0 || len(s.Charts) != 0 {
		t.Errorf("%s: %x: %v, %v", why, b, s, ok)
	}
}

// got fails if octets aren't told as that superblock.
func got(t *testing.T, b []byte, want api.Super) {
	t.Helper()
	if s, ok := super.Get(b); !ok || !alike(s, want) {
		t.Errorf("%x: %v, %v, not %v", b, s, ok, want)
	}
}

// right fails if a superblock isn't right, or if its block isn't put and got.
func right(t *testing.T, s api.Super) {
	t.Helper()
	if !super.Right(s) {
		t.Errorf("%v isn't right", s)
	}
	if b, ok := super.Put(s); !ok || !bytes.Equal(b, laid(s)) {
		t.Errorf("%v: %x, %v, not %x", s, b, ok, laid(s))
	}
	got(t, laid(s), s)
}

// wrong fails if a superblock is right, or if a block of it is put or got.
func wrong(t *testing.T, s api.Super) {
	t.Helper()
	if super.Right(s) {
		t.Errorf("%v, %d of %v is right", s.Epoch, len(s.Charts), s)
	}
	if b, ok := super.Put(s); ok || len(b) != 0 {
		t.Errorf("%v: %x, %v", s, b, ok)
	}
	if fits(s) {
		none(t, "a wrong one's", laid(s))
	}
}

// held fails if a superblock is told otherwise than by the document's own words.
func held(t *testing.T, s api.Super) {
	t.Helper()
	if isRight(s) {
		right(t, s)
	} else {
		wrong(t, s)
	}
}

// rights are right superblocks, no two of them alike.
func rights() []api.Super {
	out := []api.Super{last()}
	for _, blocks := range edgesOfBlocks() {
		out = append(out, first(blocks), used(blocks))
		for _, f := range fieldsOf(used(blocks)) {
			for _, v := range []int{0, 1, 2, 3, 255, 256, 257, blocks - 2, blocks - 1, 514, 515, 516, 1029, 1030, 1031, 1499, 1500, 1501, 1792, 65535, 65536, 1<<32 - 1, 1 << 32, 1 << 62} {
				if s := with(used(blocks), f, v); isRight(s) {
					out = append(out, s)
				}
				if s := with(first(blocks), f, v); isRight(s) {
					out = append(out, s)
				}
			}
		}
	}
	seen := map[string]bool{}
	return slices.DeleteFunc(out, func(s api.Super) bool {
		text := fmt.Sprint(s)
		was := seen[text]
		seen[text] = true
		return was
	})
}

func TestExample(t *testing.T) { // P13.1: the chapter's example
	for at := 2; at < 16; at++ {
		right(t, superOf(1, 16, 1, 1, 0, 0, 0, 0, at))
	}
	wrong(t, superOf(1, 16, 1, 1, 0, 0, 0, 0))
	wrong(t, superOf(1, 16, 1, 1, 0, 0, 0, 0, 2, 3))
	wrong(t, superOf(1, 16, 1, 1, 0, 0, 0, 0, 1))
	wrong(t, superOf(1, 16, 1, 1, 0, 0, 0, 0, 16))
}

func TestOctetByOctet(t *testing.T) { // P13.1: blocks written out, the sums too
	for _, x := range []struct {
		s    api.Super
		want string
	}{
		{superOf(1, 16, 1, 1, 0, 0, 0, 0, 2),
			"453a51b6" + "07010000" + "0100000000000000" + "10000000" + "01000000" + "01000000" + "00000000" + "00000000" + "0000" + "0000" + "0200" + strings.Repeat("00", 22)},
		{superOf(258, 385, 300, 4294967295, 259, 258, 7, 9, 2, 384),
			"907e68cd" + "07020000" + "0201000000000000" + "81010000" + "2c010000" + "ffffffff" + "03010000" + "02010000" + "0700" + "0900" + "02008001" + strings.Repeat("00", 20)},
		{superOf(0x0102030405060708, 2688, 1025, 0x01020304, 1024, 0, 258, 2687, 258, 2, 515, 772, 1029, 1286, 2561),
			"36975689" + "07070000" + "0807060504030201" + "800a0000" + "01040000" + "04030201" + "00040000" + "00000000" + "0201" + "7f0a" + "020102000302040305040605010a" + strings.Repeat("00", 10)},
		{superOf(1<<62, 3072, 1792, 4294967295, 1792, 1792, 3071, 2, 3071, 2821, 2571, 2321, 2071, 1821, 1571, 1321),
			"9b0dbd3d" + "07080000" + "0000000000000040" + "000c0000" + "00070000" + "ffffffff" + "00070000" + "00070000" + "ff0b" + "0200" + "ff0b050b0b0a110917081d0723062905" + strings.Repeat("00", 8)},
	} {
		b, _ := hex.DecodeString(x.want)
		if p, ok := super.Put(x.s); !ok || !bytes.Equal(p, b) {
			t.Errorf("%v: %x, %v, not %x", x.s, p, ok, b)
		}
		got(t, b, x.s)
		right(t, x.s)
	}
}

func TestEpochs(t *testing.T) { // P13.1
	for _, blocks := range edgesOfBlocks() {
		for _, epoch := range []int{1, 2, 255, 256, 1<<31 - 1, 1 << 31, 1<<32 - 1, 1 << 32, 1<<32 + 1, 1<<56 + 258, 1<<62 - 1, 1 << 62} {
			right(t, with(first(blocks), fields()[0], epoch))
			right(t, with(used(blocks), fields()[0], epoch))
		}
		for _, epoch := range []int{0, -1, -2, -1 << 32, 1 - 1<<32, -1 << 62, 1 - 1<<62, math.MinInt, math.MinInt + 1, 1<<62 + 1, 1<<62 + 2, 3 << 61, math.MaxInt - 1, math.MaxInt} {
			wrong(t, with(first(blocks), fields()[0], epoch))
			wrong(t, with(used(blocks), fields()[0], epoch))
		}
	}
}

func TestGeometries(t *testing.T) { // P13.1: those of layer 12, with as many Charts as they have
	for _, blocks := range []int{-1, 0, 1, 15, 16, 17, 383, 384, 385, 768, 769, 2688, 2689, 3071, 3072, 3073, 3456, 3457, 1<<32 + 16} {
		for _, slots := range []int{-1, 0, 1, 2, 1791, 1792, 1793, 1 << 32, 1<<32 + 1} {
			for _, gens := range []int{-1, 0, 1, 2, 65536, 1<<32 - 2, 1<<32 - 1, 1 << 32, 1<<32 + 1} {
				charts := 0
				if blocks < 4000 {
					charts = chartsOf(blocks)
				}
				s := superOf(5, blocks, slots, gens, 0, 0, 0, 0, rising(2, charts)...)
				if geom.Right(s.Geometry) {
					right(t, s)
					right(t, superOf(5, blocks, slots, gens, slots, slots, 2, 3, rising(4, charts)...))
				} else {
					wrong(t, s)
					wrong(t, charted(s, 2))
					wrong(t, charted(s))
					wrong(t, superOf(5, blocks, slots, gens, 1, 1, 2, 3, rising(4, charts)...))
				}
			}
		}
	}
}

func TestSlotsOfTickets(t *testing.T) { // P13.1: High and Free, with the Top that a High asks for
	for _, slots := range []int{1, 2, 3, 300, 1791, 1792} {
		for _, high := range []int{-2, -1, 0, 1, 2, slots - 1, slots, slots + 1, slots + 2, 3071, 3072} {
			for _, free := range []int{-2, -1, 0, 1, high - 1, high, high + 1, high + 2, slots - 1, slots, slots + 1} {
				top := 0
				if high != 0 {
					top = 5
				}
				s := superOf(9, 400, slots, 7, high, free, top, 0, 2, 3)
				if 0 <= high && high <= slots && 0 <= free && free <= high {
					right(t, s)
				} else {
					wrong(t, s)
				}
			}
		}
	}
}

func TestTop(t *testing.T) { // P13.1: 0 without a High, a block with one
	for _, blocks := range edgesOfBlocks() {
		for _, top := range []int{-3, -2, -1, 0, 1, 2, 3, blocks - 2, blocks - 1, blocks, blocks + 1, 3071, 3072, 65535} {
			for _, high := range []int{0, 1, 2, 1030, 1500} {
				s := used(blocks)
				s.High, s.Free, s.Top = high, min(high, 1), top
				if high == 0 && top == 0 || high > 0 && top >= 2 && top < blocks {
					right(t, s)
				} else {
					wrong(t, s)
				}
			}
		}
	}
}

func TestDir(t *testing.T) { // P13.1: 0, or a block
	for _, blocks := range edgesOfBlocks() {
		for _, dir := range []int{-3, -2, -1, 0, 1, 2, 3, blocks - 2, blocks - 1, blocks, blocks + 1, 3071, 3072, 65535} {
			for _, s := range []api.Super{first(blocks), used(blocks)} {
				s.Dir = dir
				if dir == 0 || dir >= 2 && dir < blocks {
					right(t, s)
				} else {
					wrong(t, s)
				}
			}
		}
	}
}

func TestAlikeBlocks(t *testing.T) { // P13.1: Top, Dir and a chart may be one number: the chapter rules that out for the Charts alone
	for _, blocks := range edgesOfBlocks() {
		for _, s := range []api.Super{first(blocks), used(blocks)} {
			s.High = 1
			s.Free = 1
			for _, at := range append(slices.Clone(s.Charts), 2, blocks-1) {
				s.Top, s.Dir = at, at
				right(t, s)
			}
		}
	}
}

func TestHowManyCharts(t *testing.T) { // P13.1: as many as the geometry has, one fewer, one more, and others
	for _, blocks := range edgesOfBlocks() {
		for n := range 14 {
			for _, s := range []api.Super{charted(first(blocks), rising(2, n)...), charted(used(blocks), rising(blocks-14, n)...)} {
				if n == (blocks+383)/384 {
					right(t, s)
				} else {
					wrong(t, s)
				}
			}
		}
		for _, n := range []int{24, 28, 29, 255, 256, 257, 258, 263, 264, 265, 70000} { // of some the tag alone would be cut to one that may be
			wrong(t, charted(used(blocks), rising(2, n)...))
			wrong(t, charted(used(blocks), make([]int, n)...))
		}
		wrong(t, charted(used(blocks)))
		wrong(t, charted(used(blocks), []int{}...))
		wrong(t, charted(used(blocks), make([]int, 0, 20)...))
	}
	for _, x := range []struct{ blocks, charts int }{{16, 1}, {384, 1}, {385, 2}, {768, 2}, {2305, 7}, {2688, 7}, {2689, 8}, {3072, 8}} {
		right(t, charted(first(x.blocks), rising(2, x.charts)...))
		wrong(t, charted(first(x.blocks), rising(2, x.charts-1)...))
		wrong(t, charted(first(x.blocks), rising(2, x.charts+1)...))
	}
}

func TestEachChart(t *testing.T) { // P13.1: at each place what may be, and what may not
	for _, blocks := range edgesOfBlocks() {
		for i := range chartsOf(blocks) {
			s := charted(used(blocks), rising(4, chartsOf(blocks))...)
			for _, at := range []int{2, 3, blocks - 2, blocks - 1} {
				right(t, with(s, fieldsOf(s)[8+i], at))
			}
			for _, at := range []int{0, 1, -1, -2, -cut, 2 - cut, math.MinInt, math.MinInt + 2, blocks, blocks + 1, 3072, cut - 1, cut, cut + 2, 1 << 32, 1<<32 + 2, math.MaxInt} {
				wrong(t, with(s, fieldsOf(s)[8+i], at))
			}
		}
	}
}

func TestChartsAlike(t *testing.T) { // P13.1: at any two places
	for _, blocks := range edgesOfBlocks() {
		for _, charts := range [][]int{rising(2, chartsOf(blocks)), rising(blocks-chartsOf(blocks), chartsOf(blocks))} {
			for i := range charts {
				for j := range i {
					s := charted(used(blocks), charts...)
					wrong(t, with(s, fieldsOf(s)[8+i], charts[j]))
					wrong(t, with(s, fieldsOf(s)[8+j], charts[i]))
				}
			}
		}
		if n := chartsOf(blocks); n > 1 {
			wrong(t, charted(used(blocks), slices.Repeat([]int{9}, n)...))
		}
	}
}

func TestEachField(t *testing.T) { // P13.1: below 0, the least and the greatest, and around what the octets hold
	for _, s := range []api.Super{first(16), first(3072), used(385), used(2688), last()} {
		for _, f := range fieldsOf(s) {
			for _, v := range []int{-1, -2, -258, -cut, -1 << 31, -1 << 32, -1 << 62, math.MinInt, math.MinInt + 1, math.MaxInt, math.MaxInt - 1, 1<<62 + 1, 1<<62 + 2} {
				wrong(t, with(s, f, v))
			}
			for _, by := range []int{-1 << 62, -1 << 32, -cut, cut, 1 << 32, 1 << 62} { // what is cut would be the same octets
				if f.name != "Epoch" && (f.name != "Gens" || by%(1<<32) == 0) {
					wrong(t, with(s, f, *f.of(&s)+by))
				}
			}
			for _, v := range []int{0, 1, 2, 15, 16, 17, 258, 1791, 1792, 1793, 3071, 3072, 3073, cut - 1, cut, 1<<31 - 1, 1 << 31, 1<<32 - 1, 1 << 32, 1 << 62} {
				held(t, with(s, f, v))
			}
		}
	}
}

func TestRights(t *testing.T) { // P13.1
	if n := len(rights()); n < 500 {
		t.Fatal(n)
	}
	for _, s := range rights() {
		right(t, s)
	}
}

func TestNothing(t *testing.T) { // P13.1
	wrong(t, api.Super{})
	wrong(t, api.Super{Charts: []int{2}})
	wrong(t, api.Super{Charts: make([]int, 0, 9)})
	none(t, "nil", nil)
	for n := range 200 {
		none(t, "noughts", make([]byte, n))
		none(t, "octets of 255", bytes.Repeat([]byte{255}, n))
	}
}

func TestGetNoBlock(t *testing.T) { // P13.1: octets that are no block, though a superblock's body is in them
	for _, s := range []api.Super{first(16), used(385), last()} {
		b := laid(s)
		got(t, b, s)
		for n := range 64 {
			none(t, "too few", b[:n])
			none(t, "without the first", b[64-n:])
		}
		none(t, "too many", append(bytes.Clone(b), 0))
		none(t, "two of them", append(bytes.Clone(b), b...))
		for at := range b {
			for bit := range 8 {
				c := bytes.Clone(b)
				c[at] ^= 1 << bit
				none(t, "a bit turned", c)
			}
		}
		for _, at := range []int{6, 7} { // these two are noughts in a block
			rest := bytes.Clone(b[4:])
			rest[at-4] = 1
			sum := crc32.Checksum(rest, crc32.MakeTable(crc32.Castagnoli))
			none(t, "no nought", append(binary.LittleEndian.AppendUint32(nil, sum), rest...))
		}
	}
}

func TestGetOtherKinds(t *testing.T) { // P13.1
	for kind := range 256 {
		for _, blocks := range edgesOfBlocks() {
			for _, s := range []api.Super{first(blocks), used(blocks)} {
				if b := blockOf(kind, len(s.Charts), bodyOf(s)); kind == 7 {
					got(t, b, s)
				} else {
					none(t, "another kind", b)
				}
			}
		}
		for tag := range 256 {
			none(t, "a body of noughts", blockOf(kind, tag, nil))
			none(t, "a body of octets of 255", blockOf(kind, tag, bytes.Repeat([]byte{255}, 56)))
		}
	}
}

func TestGetTags(t *testing.T) { // P13.1: another tag than there are Charts
	for _, blocks := range edgesOfBlocks() {
		for _, s := range []api.Super{first(blocks), used(blocks)} {
			for tag := range 256 {
				if b := blockOf(7, tag, bodyOf(s)); tag == len(s.Charts) {
					got(t, b, s)
				} else {
					none(t, "another tag", b)
				}
			}
		}
		for n := range 13 { // numbers that may be, to the end of the body, whatever the tag tells
			for _, tag := range []int{n - 1, n, n + 1, 12, 13, 24, 28, 255} {
				s := charted(used(blocks), rising(2, n)...)
				if b := blockOf(7, tag, bodyOf(s)); tag == n && n == chartsOf(blocks) {
					got(t, b, s)
				} else {
					none(t, "other Charts", b)
				}
			}
		}
	}
}

func TestGetBehindTheCharts(t *testing.T) { // P13.1: each octet there, to each other one
	for _, blocks := range []int{16, 385, 1000, 2688, 3072} {
		for _, s := range []api.Super{first(blocks), used(blocks)} {
			for at := len(bodyOf(s)); at < 56; at++ {
				for by := 1; by < 256; by++ {
					body := append(bodyOf(s), make([]byte, 56)...)[:56]
					body[at] = byte(by)
					none(t, "no nought behind the Charts", blockOf(7, len(s.Charts), body))
				}
			}
		}
	}
}

func TestGetEachOctet(t *testing.T) { // P13.1: each octet of the body to each other one, by the document's own words
	for _, s := range []api.Super{first(16), used(385), last()} {
		for at := range 56 {
			for by := range 256 {
				body := append(bodyOf(s), make([]byte, 56)...)[:56]
				body[at] = byte(by)
				heldOctets(t, blockOf(7, len(s.Charts), body))
			}
		}
	}
}

// told is what the document's own words make of octets: the right superblock whose block they are.
func told(b []byte) (api.Super, bool) {
	if len(b) != 64 || b[5] > 12 {
		return api.Super{}, false
	}
	four := func(at int) int { return int(binary.LittleEndian.Uint32(b[at:])) }
	two := func(at int) int { return int(binary.LittleEndian.Uint16(b[at:])) }
	s := superOf(int(binary.LittleEndian.Uint64(b[8:])), four(16), four(20), four(24), four(28), four(32), two(36), two(38))
	for i := range int(b[5]) {
		s.Charts = append(s.Charts, two(40+2*i))
	}
	if !isRight(s) || !bytes.Equal(b, laid(s)) {
		return api.Super{}, false
	}
	return s, true
}

// heldOctets fails if octets aren't told as the document's own words tell them.
func heldOctets(t *testing.T, b []byte) {
	t.Helper()
	if s, ok := told(b); ok {
		got(t, b, s)
	} else {
		none(t, "by its words", b)
	}
}

// same fails if two superblocks aren't told as alike, or unlike, whichever of them is named first.
func same(t *testing.T, a, b api.Super, want bool) {
	t.Helper()
	if got := super.Same(a, b); got != want {
		t.Errorf("%v, %v: %v", a, b, got)
	}
	if got := super.Same(b, a); got != want {
		t.Errorf("%v, %v: %v", b, a, got)
	}
}

func TestSameButForOne(t *testing.T) { // P13.2: each field, right ones and wrong ones
	for _, s := range []api.Super{first(16), used(385), used(2688), last(), superOf(0, 0, 0, 0, 0, 0, 0, 0, 0, 0), charted(api.Super{}, rising(-5, 20)...)} {
		copied := s
		copied.Charts = slices.Clone(s.Charts)
		same(t, s, copied, true)
		for _, f := range fieldsOf(s) {
			v := *f.of(&s)
			for _, other := range []int{v + 1, v - 1, -v, v + cut, v + 1<<32, v ^ 1<<62, math.MinInt, math.MaxInt, 0, 1, 2} {
				same(t, s, with(s, f, other), v == other)
			}
		}
	}
}

func TestSameCharts(t *testing.T) { // P13.2: in another order, one more, one fewer, none
	for _, blocks := range edgesOfBlocks() {
		s := used(blocks)
		n := len(s.Charts)
		for i := range n {
			for j := range i {
				c := slices.Clone(s.Charts)
				c[i], c[j] = c[j], c[i]
				same(t, s, charted(s, c...), false)
			}
			same(t, s, charted(s, slices.Delete(slices.Clone(s.Charts), i, i+1)...), false)
			same(t, s, charted(s, slices.Insert(slices.Clone(s.Charts), i, 2)...), false)
			same(t, s, charted(s, slices.Insert(slices.Clone(s.Charts), i, s.Charts[i])...), false)
		}
		same(t, s, charted(s, append(slices.Clone(s.Charts), 0)...), false)
		same(t, s, charted(s, append(slices.Clone(s.Charts), 2)...), false)
		same(t, s, charted(s), false)
		same(t, s, charted(s, []int{}...), false)
		same(t, charted(s), charted(s, make([]int, 0, 5)...), true) // nil and empty are one
		same(t, charted(s), charted(s, 0), false)
		same(t, charted(s), charted(s, make([]int, n)...), false)
		room := append(slices.Clone(s.Charts), 5, 6, 7)
		same(t, s, charted(s, room[:n]...), true)
	}
}

func TestSameZero(t *testing.T) { // P13.2
	same(t, api.Super{}, api.Super{}, true)
	same(t, api.Super{}, charted(api.Super{}, []int{}...), true)
	same(t, api.Super{}, api.Super{Charts: make([]int, 0, 3)}, true)
	same(t, api.Super{}, charted(api.Super{}, 0), false)
	for _, f := range fields() {
		same(t, api.Super{}, with(api.Super{}, f, 1), false)
		for _, g := range fields() { // one number in another field
			same(t, with(api.Super{}, f, 7), with(api.Super{}, g, 7), f.name == g.name)
		}
	}
}

func TestThereAndBack(t *testing.T) { // P13.2, P13.3: unlike right ones have unlike blocks
	all := rights()
	seen := map[string]api.Super{}
	for _, s := range all {
		b, ok := super.Put(s)
		if !ok {
			t.Fatalf("%v: none", s)
		}
		g, ok := super.Get(b)
		if !ok || !super.Same(g, s) || !alike(g, s) {
			t.Errorf("%v: %v, %v", s, g, ok)
		}
		if again, ok := super.Put(g); !ok || !bytes.Equal(again, b) {
			t.Errorf("%v: %x, not %x", s, again, b)
		}
		if other, there := seen[string(b)]; there {
			t.Errorf("%v, %v: %x", s, other, b)
		}
		seen[string(b)] = s
	}
	for i := range all {
		for j := max(0, i-40); j <= i; j++ {
			same(t, all[i], all[j], i == j)
		}
	}
}

// octetsWithRoom is octets with room on both sides, all of it marked, and a copy of all.
func octetsWithRoom(b []byte) (inner, room, was []byte) {
	room = append(bytes.Repeat([]byte{170}, 8), b...)
	room = append(room, bytes.Repeat([]byte{170}, 100)...)
	return room[8 : 8+len(b)], room, bytes.Clone(room)
}

// numbersWithRoom is the same of a list.
func numbersWithRoom(list []int) (inner, room, was []int) {
	room = append(slices.Repeat([]int{1234}, 3), list...)
	room = append(room, slices.Repeat([]int{1234}, 40)...)
	return room[3 : 3+len(list)], room, slices.Clone(room)
}

// spoil fills a list and its spare room.
func spoil[T byte | int](list []T) {
	list = list[:cap(list)]
	for i := range list {
		list[i] = 85
	}
}

func TestOctetsHandedInStay(t *testing.T) { // P13.3
	b := laid(last())
	for _, b := range [][]byte{nil, b, laid(first(16)), laid(used(2688)), blockOf(7, 7, b[8:]), blockOf(7, 9, b[8:]), blockOf(7, 255, b[8:]), blockOf(6, 8, b[8:]), laid(superOf(0, 16, 1, 1, 0, 0, 0, 0, 2)),
		blockOf(7, 8, bytes.Repeat([]byte{255}, 56)), b[:63], b[8:], make([]byte, 64), make([]byte, 65)} {
		inner, room, was := octetsWithRoom(b)
		super.Get(inner)
		if !bytes.Equal(room, was) {
			t.Errorf("%x: changed to %x", was, room)
		}
	}
}

func TestChartsHandedInStay(t *testing.T) { // P13.3
	all := append(rights(), api.Super{}, charted(used(3072), 9, 8, 7, 6, 5, 4, 3, 9), charted(used(3072), 9, 8, 7, 6, 5, 4, 3), charted(first(16), 1), charted(first(16), rising(2, 300)...))
	for _, s := range all {
		inner, room, was := numbersWithRoom(s.Charts)
		p := charted(s, inner...)
		super.Right(p)
		super.Put(p)
		super.Same(p, s)
		super.Same(s, p)
		super.Same(p, p)
		super.Same(p, api.Super{})
		if !slices.Equal(room, was) || !alike(p, s) {
			t.Errorf("%v: changed to %v", was, room)
		}
	}
}

func TestPutIsNew(t *testing.T) { // P13.3: changed neither with what was handed in nor with another answer
	for _, s := range rights() {
		want := laid(s)
		inner, room, was := numbersWithRoom(s.Charts)
		first, _ := super.Put(charted(s, inner...))
		second, _ := super.Put(charted(s, inner...))
		spoil(second)
		if !slices.Equal(room, was) || !bytes.Equal(first, want) {
			t.Errorf("%v: shared with an answer", s)
		}
		spoil(room)
		if !bytes.Equal(first, want) {
			t.Errorf("%v: the Charts were kept", s)
		}
		spoil(first)
		right(t, s)
	}
}

func TestGetIsNew(t *testing.T) { // P13.3
	for _, s := range rights() {
		inner, room, was := octetsWithRoom(laid(s))
		first, _ := super.Get(inner)
		second, _ := super.Get(inner)
		spoil(second.Charts)
		if !bytes.Equal(room, was) || !alike(first, s) {
			t.Errorf("%v: shared with an answer: %v", s, first)
		}
		spoil(room)
		if !alike(first, s) {
			t.Errorf("%v: the octets were kept: %v", s, first)
		}
		none(t, "spoilt", inner)
		spoil(first.Charts)
		right(t, s)
	}
}

func TestSealed(t *testing.T) { // P13.1: the octets are those of layer 7, the Charts as many as layer 12 tells
	for _, s := range rights() {
		b, ok := block.Seal(api.KindSuper, geom.Charts(s.Geometry), bodyOf(s))
		if !ok || !bytes.Equal(b, laid(s)) {
			t.Fatalf("%v: %x, %v", s, b, ok)
		}
		got(t, b, s)
	}
	for blocks := 16; blocks <= 3072; blocks++ {
		right(t, first(blocks))
		right(t, used(blocks))
	}
}

// drawn is a superblock that is often right.
func drawn(r *rand.Rand) api.Super {
	blocks := 16 + r.Intn(3057)
	if r.Intn(3) == 0 {
		blocks = edgesOfBlocks()[r.Intn(len(edgesOfBlocks()))]
	}
	number := func() int { return 2 + r.Intn(blocks-2) }
	slots := 1 + r.Intn(1792)
	s := superOf(1+int(r.Uint64()>>(2+r.Intn(60))), blocks, slots, 1+int(r.Uint32()>>r.Intn(32)), r.Intn(slots+1)*r.Intn(2), 0, 0, number()*r.Intn(2), r.Perm(blocks - 2)[:chartsOf(blocks)]...)
	s.Free = r.Intn(s.High + 1)
	if s.High > 0 {
		s.Top = number()
	}
	for i := range s.Charts {
		s.Charts[i] += 2
	}
	if fs := fieldsOf(s); r.Intn(3) == 0 {
		*fs[r.Intn(len(fs))].of(&s) += []int{-1, 1, -10, 10, 1 << 16, -1 << 16, 1 << 32, -1 << 32, 1 << 62}[r.Intn(9)]
	}
	switch r.Intn(12) {
	case 0:
		s.Charts = s.Charts[:len(s.Charts)-1]
	case 1:
		s.Charts = append(s.Charts, number())
	case 2:
		s.Charts[r.Intn(len(s.Charts))] = number()
	}
	return s
}

func TestModel(t *testing.T) { // P13.1 to P13.3
	r := rand.New(rand.NewSource(13))
	were, rightOnes := drawn(r), 0
	for range 6000 {
		s := drawn(r)
		held(t, s)
		same(t, s, were, alike(s, were))
		were = s
		if isRight(s) {
			rightOnes++
		}
		body := append(bodyOf(s), make([]byte, 56)...)[:56]
		heldOctets(t, blockOf(7, r.Intn(14), body))
		heldOctets(t, blockOf(6+r.Intn(3), len(s.Charts), body))
		body[r.Intn(56)] ^= byte(1 << r.Intn(8))
		heldOctets(t, blockOf(7, len(s.Charts), body))
	}
	if rightOnes < 2000 || rightOnes > 5000 {
		t.Errorf("%d of 6000 were right", rightOnes)
	}
}

func FuzzSuper(f *testing.F) { // P13.1 to P13.3
	for _, s := range []api.Super{first(16), used(385), last(), {}} {
		var charts []byte
		for _, at := range s.Charts {
			charts = binary.LittleEndian.AppendUint16(charts, uint16(at))
		}
		f.Add(7, len(s.Charts), s.Epoch, s.Blocks, s.Slots, s.Gens, s.High, s.Free, s.Top, s.Dir, charts)
	}
	f.Fuzz(func(t *testing.T, kind, tag, epoch, blocks, slots, gens, high, free, top, dir int, rest []byte) {
		s := superOf(epoch, blocks, slots, gens, high, free, top, dir)
		for i := 0; i+1 < len(rest); i += 2 {
			s.Charts = append(s.Charts, int(int16(binary.LittleEndian.Uint16(rest[i:]))))
		}
		held(t, s)
		same(t, s, charted(s, slices.Clone(s.Charts)...), true)
		heldOctets(t, rest)
		heldOctets(t, blockOf(kind, tag, rest))
		heldOctets(t, blockOf(kind, tag, bodyOf(s)))
		heldOctets(t, laid(s))
	})
}
