package chart_test

import (
	"bytes"
	"encoding/binary"
	"encoding/hex"
	"hash/crc32"
	"maps"
	"math"
	"math/rand"
	"slices"
	"testing"

	"rickyard/api"
	"rickyard/block"
	"rickyard/chart"
)

// bitsOf are the Bits of these marks, counted from 0 to 383.
func bitsOf(marks ...int) [48]byte {
	var bits [48]byte
	for _, i := range marks {
		bits[i/8] |= []byte{1, 2, 4, 8, 16, 32, 64, 128}[i%8]
	}
	return bits
}

// chartOf is a chart of any Place with these marks, counted from 0 to 383.
func chartOf(place int, marks ...int) api.Chart {
	return api.Chart{Place: place, Bits: bitsOf(marks...)}
}

// allMarks are all that a chart has, counted from 0 on.
func allMarks() []int {
	var out []int
	for i := range 384 {
		out = append(out, i)
	}
	return out
}

// full is a chart with all blocks marked.
func full(place int) api.Chart {
	return chartOf(place, allMarks()...)
}

// turned is a chart with another octet of Bits.
func turned(c api.Chart, at int, by byte) api.Chart {
	c.Bits[at] ^= by
	return c
}

// blockOf are 64 octets of any kind and tag, with the right sum: known of another program's tables.
func blockOf(kind, tag int, body []byte) []byte {
	rest := make([]byte, 60)
	rest[0], rest[1] = byte(kind), byte(tag)
	copy(rest[4:], body)
	sum := crc32.Checksum(rest, crc32.MakeTable(crc32.Castagnoli))
	return append(binary.LittleEndian.AppendUint32(nil, sum), rest...)
}

// laid is a chart's block by the document's own words, with the right sum, whatever the Place is.
func laid(c api.Chart) []byte {
	return blockOf(4, c.Place, append(c.Bits[:], 0, 0, 0, 0, 0, 0, 0, 0))
}

// isRight is the document's own words for a right chart.
func isRight(c api.Chart) bool {
	return slices.Contains([]int{0, 1, 2, 3, 4, 5, 6, 7}, c.Place)
}

// marked are the numbers of a right chart's marked blocks, by the document's own words; of another one there are none.
func marked(c api.Chart) map[int]bool {
	out := map[int]bool{}
	if !isRight(c) {
		return out
	}
	for i := range 384 {
		if int(c.Bits[i/8])/[]int{1, 2, 4, 8, 16, 32, 64, 128}[i%8]%2 == 1 {
			out[384*c.Place+i] = true
		}
	}
	return out
}

// tells is whether a chart tells of a block, by the document's own words.
func tells(c api.Chart, at int) bool {
	return isRight(c) && at >= 384*c.Place && at <= 384*c.Place+383
}

// patterns are Bits, no two of them alike: each mark by itself, each one missing, none, all, and some more.
func patterns() [][48]byte {
	var each [48]byte
	for i := range each {
		each[i] = byte(37*i + 11)
	}
	out := [][48]byte{bitsOf(), bitsOf(allMarks()...), each, bitsOf(0, 383), bitsOf(7, 8, 376, 375), bitsOf(1, 9, 100, 255, 256, 257)}
	for i := range 384 {
		others := slices.DeleteFunc(allMarks(), func(j int) bool { return j == i })
		out = append(out, bitsOf(i), bitsOf(others...))
	}
	for octet := range 256 {
		for _, at := range []int{0, 23, 47} {
			var bits [48]byte
			bits[at], bits[(at+1)%48] = byte(octet), 129
			out = append(out, bits)
		}
	}
	return out
}

// rightCharts are right charts, no two of them alike.
func rightCharts() []api.Chart {
	var out []api.Chart
	for _, bits := range patterns() {
		for place := range 8 {
			out = append(out, api.Chart{Place: place, Bits: bits})
		}
	}
	return out
}

// wrongPlaces are Places of charts that aren't right; the blocks of some of them would wrap round to right ones.
func wrongPlaces() []int {
	return []int{-1, -2, -7, -8, 8, 9, 10, 15, 16, 128, 255, 256, 257, 263, 264, -248, -249, -255, -256, 1 << 16, 1<<16 + 7, 1 << 32, 1<<32 + 1, -1 << 32, 7 - 1<<32,
		1 << 57, 1<<57 + 1, 1<<57 + 7, -1 << 57, 7 - 1<<57, 1<<57 - 1, 1<<58 + 1, 1 << 62, math.MaxInt, math.MaxInt - 7, math.MinInt, math.MinInt + 1, math.MinInt + 7}
}

// wrongCharts are charts that aren't right.
func wrongCharts() []api.Chart {
	var out []api.Chart
	for _, place := range wrongPlaces() {
		out = append(out, chartOf(place), full(place), chartOf(place, 0), chartOf(place, 383), chartOf(place, 0, 1, 9, 200))
	}
	return out
}

// beside are numbers of which a chart tells nothing, whatever its Place is; some would wrap round to those that charts tell of.
func beside() []int {
	out := []int{math.MinInt, math.MinInt + 1, math.MinInt + 383, math.MinInt + 384, math.MinInt + 2688, math.MinInt + 3071, math.MaxInt, math.MaxInt - 1, math.MaxInt - 383, math.MaxInt - 2687, math.MaxInt - 3071}
	for _, far := range []int{1 << 12, 1 << 13, 1 << 16, 1 << 31, 1 << 32, 1 << 62} {
		out = append(out, far, far+1, far+384, far+385, far+2688, far+3071, -far, 1-far, 384-far, 2688-far)
	}
	return append(out, -1, -2, -7, -8, -9, -383, -384, -385, -2688, 3072, 3073, 3079, 3080, 3455, 3456)
}

// none fails if octets are told as a chart.
func none(t *testing.T, why string, b []byte) {
	t.Helper()
	if c, ok := chart.Get(b); ok || c != (api.Chart{}) {
		t.Errorf("%s: %x: %v, %v", why, b, c, ok)
	}
}

// got fails if octets aren't told as that chart.
func got(t *testing.T, b []byte, want api.Chart) {
	t.Helper()
	if c, ok := chart.Get(b); !ok || c != want {
		t.Errorf("%x: %v, %v, not %v", b, c, ok, want)
	}
}

// put fails if a chart's block isn't that one.
func put(t *testing.T, c api.Chart, want []byte) {
	t.Helper()
	if b, ok := chart.Put(c); !ok || !bytes.Equal(b, want) {
		t.Errorf("%v: %x, %v, not %x", c, b, ok, want)
	}
}

// has fails if a chart doesn't tell that of a block.
func has(t *testing.T, c api.Chart, at int, want bool) {
	t.Helper()
	if chart.Has(c, at) != want {
		t.Errorf("%v, %d: %v", c, at, !want)
	}
}

// markedSo fails if a chart isn't changed into that one.
func markedSo(t *testing.T, c api.Chart, at int, on bool, want api.Chart) {
	t.Helper()
	if d, ok := chart.Mark(c, at, on); !ok || d != want {
		t.Errorf("%v, %d, %v: %v, %v, not %v", c, at, on, d, ok, want)
	}
}

// notMarked fails if a chart is changed at a block that it doesn't tell of.
func notMarked(t *testing.T, c api.Chart, at int) {
	t.Helper()
	has(t, c, at, false)
	for _, on := range []bool{false, true} {
		if d, ok := chart.Mark(c, at, on); ok || d != (api.Chart{}) {
			t.Errorf("%v, %d, %v: %v, %v", c, at, on, d, ok)
		}
	}
}

// listed fails if a chart's marked blocks aren't these.
func listed(t *testing.T, c api.Chart, want ...int) {
	t.Helper()
	if list := chart.List(c); !slices.Equal(list, want) {
		t.Errorf("%v: %v, not %v", c, list, want)
	}
	if n := chart.Count(c); n != len(want) {
		t.Errorf("%v: %d, not %d", c, n, len(want))
	}
}

func TestExample(t *testing.T) { // P10.1, P10.2: the chapter's example
	c := api.Chart{Place: 1, Bits: [48]byte{1}}
	listed(t, c, 384)
	has(t, c, 384, true)
	for at := range 3072 {
		has(t, c, at, at == 384)
	}
	want := "e0b20223" + "04010000" + "01" + "0000000000000000000000000000000000000000000000000000000000000000000000000000000000000000000000" + "0000000000000000"
	if b, ok := chart.Put(c); !ok || hex.EncodeToString(b) != want {
		t.Errorf("%x, %v, not %s", b, ok, want)
	}
	got(t, laid(c), c)
}

func TestOctetByOctet(t *testing.T) { // P10.1: blocks written out, the sums too
	noughts := "0000000000000000"
	for _, x := range []struct {
		c    api.Chart
		want string
	}{
		{chartOf(0), "ace20989" + "04000000" + noughts + noughts + noughts + noughts + noughts + noughts + noughts},
		{chartOf(0, 0, 1, 9, 383, 376, 100), "69251cd5" + "04000000" + "0302000000000000" + "0000000010000000" + noughts + noughts + noughts + "0000000000000081" + noughts},
		{chartOf(7, 2688-2688, 2697-2688, 3071-2688, 3056-2688, 3057-2688, 2700-2688), "9936f446" + "04070000" + "0112000000000000" + noughts + noughts + noughts + noughts + "0000000000000380" + noughts},
		{full(7), "baf044b5" + "04070000" + "ffffffffffffffff" + "ffffffffffffffff" + "ffffffffffffffff" + "ffffffffffffffff" + "ffffffffffffffff" + "ffffffffffffffff" + noughts},
	} {
		b, ok := chart.Put(x.c)
		if !ok || hex.EncodeToString(b) != x.want {
			t.Errorf("%x, %v, not %s", b, ok, x.want)
		}
		got(t, b, x.c)
	}
}

func TestPut(t *testing.T) { // P10.1
	for _, c := range rightCharts() {
		put(t, c, laid(c))
	}
}

func TestPutNone(t *testing.T) { // P10.1
	for _, c := range wrongCharts() {
		if b, ok := chart.Put(c); ok || len(b) != 0 {
			t.Errorf("%v: %x, %v", c, b, ok)
		}
	}
	for place := -3000; place < 3000; place++ {
		if b, ok := chart.Put(chartOf(place, 3)); ok != (place >= 0 && place <= 7) || ok != (len(b) == 64) {
			t.Errorf("%d: %x, %v", place, b, ok)
		}
	}
}

func TestGet(t *testing.T) { // P10.1: octets that the test laid, not Put
	for _, c := range rightCharts() {
		got(t, laid(c), c)
	}
}

func TestGetNoBlock(t *testing.T) { // P10.1
	none(t, "nil", nil)
	none(t, "no octets", []byte{})
	none(t, "64 noughts", make([]byte, 64))
	none(t, "64 octets of 255", bytes.Repeat([]byte{255}, 64))
	for _, whole := range [][]byte{laid(chartOf(0)), laid(chartOf(1, 0)), laid(full(7))} {
		long := bytes.Repeat(whole, 2)
		for n := range long {
			if n != 64 {
				none(t, "the first ones alone", long[:n])
			}
		}
		none(t, "two blocks", long)
		none(t, "ahead of it", append([]byte{0}, whole...))
		none(t, "spare room that would fill it", whole[:63:64])
		none(t, "a body alone", whole[8:])
		for at := range whole {
			for by := 1; by < 256; by++ {
				b := bytes.Clone(whole)
				b[at] ^= byte(by)
				none(t, "an octet turned", b)
			}
		}
		for _, at := range []int{6, 7} { // the sum is right, but these two are noughts in a block
			rest := bytes.Clone(whole[4:])
			rest[at-4] = 1
			sum := crc32.Checksum(rest, crc32.MakeTable(crc32.Castagnoli))
			none(t, "no nought", append(binary.LittleEndian.AppendUint32(nil, sum), rest...))
		}
	}
}

func TestGetOtherKinds(t *testing.T) { // P10.1
	for _, c := range []api.Chart{chartOf(0), chartOf(7, 0), full(3)} {
		for kind := range 256 {
			b := blockOf(kind, c.Place, c.Bits[:])
			if kind == 4 {
				got(t, b, c)
			} else {
				none(t, "another kind", b)
			}
		}
	}
}

func TestGetTags(t *testing.T) { // P10.1: each of the first eight is a Place, the others are none
	for _, bits := range [][48]byte{bitsOf(), bitsOf(0), bitsOf(allMarks()...)} {
		for tag := range 256 {
			b := blockOf(4, tag, bits[:])
			if tag < 8 {
				got(t, b, api.Chart{Place: tag, Bits: bits})
			} else {
				none(t, "a tag above 7", b)
			}
		}
	}
}

func TestGetBehindTheBits(t *testing.T) { // P10.1
	for _, c := range []api.Chart{chartOf(0), chartOf(7, 383), full(1)} {
		for at := 48; at < 56; at++ {
			for by := 1; by < 256; by++ {
				b := append(c.Bits[:], make([]byte, 8)...)
				b[at] = byte(by)
				none(t, "no nought behind the Bits", blockOf(4, c.Place, b))
			}
		}
		none(t, "no noughts behind the Bits", blockOf(4, c.Place, append(c.Bits[:], bytes.Repeat([]byte{255}, 8)...)))
	}
}

func TestHasEachMark(t *testing.T) { // P10.2: each one by itself, and each one missing, at each Place
	for place := range 8 {
		for i := range 384 {
			alone, missing := chartOf(place, i), full(place)
			missing.Bits[i/8] -= []byte{1, 2, 4, 8, 16, 32, 64, 128}[i%8]
			for at := 384*place - 3; at < 384*place+387; at++ {
				has(t, alone, at, at == 384*place+i)
				has(t, missing, at, tells(missing, at) && at != 384*place+i)
			}
			listed(t, alone, 384*place+i)
			if n := chart.Count(missing); n != 383 {
				t.Errorf("all but %d: %d", i, n)
			}
		}
	}
}

func TestHasAtTheEdges(t *testing.T) { // P10.2: the first and the last block of each Place, and the ones beside these
	for place, ends := range [][2]int{{0, 383}, {384, 767}, {768, 1151}, {1152, 1535}, {1536, 1919}, {1920, 2303}, {2304, 2687}, {2688, 3071}} {
		first, last := ends[0], ends[1]
		for _, c := range []api.Chart{full(place), chartOf(place, 0, 383)} {
			has(t, c, first, true)
			has(t, c, last, true)
			has(t, c, first-1, false)
			has(t, c, last+1, false)
		}
		bare := chartOf(place)
		has(t, bare, first, false)
		has(t, bare, last, false)
		markedSo(t, bare, first, true, chartOf(place, 0))
		markedSo(t, bare, last, true, chartOf(place, 383))
		markedSo(t, chartOf(place, 0, 383), first, false, chartOf(place, 383))
		markedSo(t, chartOf(place, 0, 383), last, false, chartOf(place, 0))
		for _, c := range []api.Chart{full(place), bare, chartOf(place, 0, 383)} {
			notMarked(t, c, first-1)
			notMarked(t, c, last+1)
		}
	}
}

func TestBeside(t *testing.T) { // P10.2: numbers below 0, above all blocks, the least and the greatest int
	for place := range 8 {
		for _, c := range []api.Chart{full(place), chartOf(place), chartOf(place, 0)} {
			for _, at := range beside() {
				notMarked(t, c, at)
			}
			for at := -4000; at < 8000; at++ {
				if !tells(c, at) {
					notMarked(t, c, at)
				}
			}
		}
	}
}

func TestMark(t *testing.T) { // P10.2, P10.3: each block, marked already or not, either way; every other mark stays as it was
	for place := range 8 {
		for _, bits := range [][48]byte{bitsOf(), bitsOf(allMarks()...), bitsOf(0, 2, 4, 6, 9, 11, 13, 15, 100, 383), patterns()[2]} {
			c := api.Chart{Place: place, Bits: bits}
			was := marked(c)
			for i := range 384 {
				at := 384*place + i
				other := turned(c, i/8, []byte{1, 2, 4, 8, 16, 32, 64, 128}[i%8])
				on, off := c, other
				if !was[at] {
					on, off = other, c
				}
				markedSo(t, c, at, true, on)
				markedSo(t, c, at, false, off)
				has(t, on, at, true)
				has(t, off, at, false)
				markedSo(t, on, at, true, on) // again
				markedSo(t, off, at, false, off)
				markedSo(t, on, at, false, off) // and back
				markedSo(t, off, at, true, on)
			}
		}
	}
}

func TestMarkOneByOne(t *testing.T) { // P10.2, P10.3: from none to all and back
	for place := range 8 {
		c := api.Chart{Place: place}
		for i := range 384 {
			at := 384*place + i*131%384
			d, ok := chart.Mark(c, at, true)
			if !ok || chart.Has(c, at) || !chart.Has(d, at) || chart.Count(d) != i+1 {
				t.Fatalf("%d: %v, %v", at, d, ok)
			}
			c = d
		}
		if c != full(place) {
			t.Errorf("%v isn't full", c)
		}
		for i := range 384 {
			at := 384*place + i*205%384
			d, ok := chart.Mark(c, at, false)
			if !ok || !chart.Has(c, at) || chart.Has(d, at) || chart.Count(d) != 383-i {
				t.Fatalf("%d: %v, %v", at, d, ok)
			}
			c = d
		}
		if c != chartOf(place) {
			t.Errorf("%v has marks", c)
		}
	}
}

func TestList(t *testing.T) { // P10.2
	listed(t, api.Chart{})
	listed(t, chartOf(7))
	listed(t, chartOf(0, 0), 0)
	listed(t, chartOf(0, 0, 1, 7, 8, 383), 0, 1, 7, 8, 383)
	listed(t, chartOf(3, 383, 15, 16, 0), 1152, 1167, 1168, 1535)
	listed(t, chartOf(7, 0, 9, 383), 2688, 2697, 3071)
	for place := range 8 {
		var all []int
		for i := range 384 {
			all = append(all, 384*place+i)
		}
		listed(t, full(place), all...)
	}
	for _, c := range rightCharts() {
		was := marked(c)
		var want []int
		for at := range 3072 {
			if was[at] {
				want = append(want, at)
			}
		}
		listed(t, c, want...)
	}
}

func TestNotRight(t *testing.T) { // P10.2: whatever their Bits and the numbers are
	for _, c := range wrongCharts() {
		listed(t, c)
		for _, at := range append(beside(), 0, 1, 7, 8, 383, 384, 385, 767, 768, 2687, 2688, 3071) {
			notMarked(t, c, at)
		}
		for _, i := range []int{-1, 0, 1, 7, 8, 9, 200, 383, 384} { // where its blocks would be, wrapped round or not
			notMarked(t, c, c.Place*384+i)
		}
	}
	for place := -40; place < 300; place++ {
		c := full(place)
		if right := isRight(c); right != (chart.Count(c) == 384) || right != (len(chart.List(c)) == 384) || right != chart.Has(c, 384*place) {
			t.Errorf("%d: %d, %v", place, chart.Count(c), chart.List(c))
		}
	}
}

func TestThereAndBack(t *testing.T) { // P10.3
	seen := map[string]api.Chart{}
	for _, c := range rightCharts() {
		b, ok := chart.Put(c)
		if !ok {
			t.Fatalf("%v: none", c)
		}
		got(t, b, c)
		d, _ := chart.Get(b)
		put(t, d, b)
		if other, there := seen[string(b)]; there && other != c {
			t.Errorf("%v, %v: %x", c, other, b)
		}
		seen[string(b)] = c
	}
}

func TestMarkedThereAndBack(t *testing.T) { // P10.3: of a chart that was marked, too
	for place := range 8 {
		for i := range 384 {
			c, _ := chart.Mark(chartOf(place, 5, 300), 384*place+i, true)
			put(t, c, laid(chartOf(place, 5, 300, i)))
			got(t, laid(c), c)
		}
	}
}

// octetsWithRoom is octets with room on both sides, all of it marked, and a copy of all; there is no more room than that.
func octetsWithRoom(b []byte) (inner, room, was []byte) {
	room = append(bytes.Repeat([]byte{170}, 8), b...)
	room = slices.Clip(append(room, bytes.Repeat([]byte{170}, 100)...))
	return room[8 : 8+len(b)], room, bytes.Clone(room)
}

func TestHandedInStays(t *testing.T) { // P10.3
	whole := laid(full(7))
	for _, b := range [][]byte{nil, whole, laid(chartOf(0)), laid(chartOf(1, 0)), blockOf(4, 8, whole[8:]), blockOf(4, 255, nil), blockOf(3, 1, whole[8:]),
		blockOf(4, 1, bytes.Repeat([]byte{255}, 56)), whole[:63], whole[8:], make([]byte, 64), make([]byte, 65)} {
		inner, room, was := octetsWithRoom(b)
		chart.Get(inner)
		if !bytes.Equal(room, was) {
			t.Errorf("%x: changed to %x", was, room)
		}
	}
}

func TestChartHandedInStays(t *testing.T) { // P10.3
	for _, c := range []api.Chart{chartOf(0), full(7), chartOf(3, 5, 6), chartOf(8, 1), full(-1)} {
		was := c
		b, _ := chart.Put(c)
		spoil(b)
		chart.Has(c, 384*c.Place)
		chart.Mark(c, 384*c.Place+5, true)
		chart.Mark(c, 384*c.Place+5, false)
		chart.Count(c)
		chart.List(c)
		if c != was {
			t.Errorf("%v: changed to %v", was, c)
		}
	}
}

// spoil fills octets and their spare room.
func spoil(b []byte) {
	b = b[:cap(b)]
	for i := range b {
		b[i] = 85
	}
}

// spoilList fills numbers and their spare room.
func spoilList(list []int) {
	list = list[:cap(list)]
	for i := range list {
		list[i] = -7
	}
}

func TestPutIsNew(t *testing.T) { // P10.3
	for _, c := range rightCharts() {
		first, _ := chart.Put(c)
		second, _ := chart.Put(c)
		spoil(second)
		if !bytes.Equal(first, laid(c)) {
			t.Errorf("shared with an answer: %x, not %x", first, laid(c))
		}
		spoil(first)
		put(t, c, laid(c))
	}
}

func TestGetIsNew(t *testing.T) { // P10.3: the octets aren't kept
	for _, c := range rightCharts() {
		b := laid(c)
		d, _ := chart.Get(b)
		spoil(b)
		if d != c {
			t.Errorf("%v: kept: %v", c, d)
		}
		none(t, "spoilt", b)
		got(t, laid(c), c)
	}
}

func TestListIsNew(t *testing.T) { // P10.3
	for _, c := range append(rightCharts(), chartOf(8, 1)) {
		want := slices.Sorted(maps.Keys(marked(c)))
		first, second := chart.List(c), chart.List(c)
		spoilList(second)
		if !slices.Equal(first, want) {
			t.Errorf("shared with an answer: %v, not %v", first, want)
		}
		spoilList(first)
		listed(t, c, want...)
	}
}

// told is what the document's own words make of octets: the right chart whose block they are.
func told(b []byte) (api.Chart, bool) {
	if len(b) != 64 {
		return api.Chart{}, false
	}
	c := api.Chart{Place: int(b[5])}
	copy(c.Bits[:], b[8:])
	if !isRight(c) || !bytes.Equal(b, laid(c)) {
		return api.Chart{}, false
	}
	return c, true
}

// held fails if octets aren't told as the document's own words tell them.
func held(t *testing.T, b []byte) {
	t.Helper()
	if c, ok := told(b); ok {
		got(t, b, c)
	} else {
		none(t, "by its words", b)
	}
}

// heldChart fails if a chart isn't put, asked and marked as the document's own words tell it.
func heldChart(t *testing.T, c api.Chart, at int) {
	t.Helper()
	b, ok := chart.Put(c)
	if right := isRight(c); ok != right || !ok && len(b) != 0 || ok && !bytes.Equal(b, laid(c)) {
		t.Fatalf("%v: %x, %v", c, b, ok)
	}
	held(t, b)
	was := marked(c)
	if list := chart.List(c); len(list) != len(was) || chart.Count(c) != len(was) || !slices.IsSorted(list) || slices.ContainsFunc(list, func(at int) bool { return !was[at] }) {
		t.Fatalf("%v: %v, %d", c, list, chart.Count(c))
	}
	has(t, c, at, was[at])
	if !tells(c, at) {
		notMarked(t, c, at)
		return
	}
	for _, on := range []bool{false, true} {
		d, ok := chart.Mark(c, at, on)
		now := marked(d)
		if !ok || d.Place != c.Place || now[at] != on {
			t.Fatalf("%v, %d, %v: %v, %v", c, at, on, d, ok)
		}
		for other := range 3072 {
			if other != at && now[other] != was[other] {
				t.Fatalf("%v, %d, %v: %v: %d", c, at, on, d, other)
			}
		}
	}
}

func TestModel(t *testing.T) { // P10.1 to P10.3
	r := rand.New(rand.NewSource(10))
	for range 4000 {
		c := api.Chart{Place: r.Intn(10) - 1}
		for i := range c.Bits {
			c.Bits[i] = byte(r.Intn(256) * r.Intn(2))
		}
		heldChart(t, c, r.Intn(3200)-64)
		heldChart(t, c, 384*c.Place+r.Intn(400)-8)
		held(t, laid(c))
		held(t, blockOf(3+r.Intn(2), r.Intn(16), c.Bits[:]))
		body := append(c.Bits[:], make([]byte, 8)...)
		body[r.Intn(56)] ^= byte(1 << r.Intn(8))
		held(t, blockOf(4, c.Place, body))
	}
}

func TestSealed(t *testing.T) { // P10.1: the octets are those of layer 7
	for place := range 8 {
		bits := bitsOf(place, 2*place, 383)
		b, ok := block.Seal(api.KindChart, place, bits[:])
		if !ok {
			t.Fatalf("%d: none", place)
		}
		put(t, api.Chart{Place: place, Bits: bits}, b)
		got(t, b, api.Chart{Place: place, Bits: bits})
	}
}

func FuzzChart(f *testing.F) { // P10.1 to P10.3
	f.Add(4, 1, 1, 384, []byte{1})
	f.Add(4, 8, 8, 3072, make([]byte, 56))
	f.Add(3, 7, -1, -1, bytes.Repeat([]byte{255}, 49))
	f.Add(4, 7, 7, 3071, laid(full(7)))
	f.Fuzz(func(t *testing.T, kind, tag, place, at int, rest []byte) {
		c := api.Chart{Place: place}
		copy(c.Bits[:], rest)
		heldChart(t, c, at)
		c.Place = int(uint(place) % 8)
		heldChart(t, c, at)
		heldChart(t, c, 384*c.Place+int(uint(at)%384))
		held(t, rest)
		held(t, blockOf(kind, tag, rest))
		held(t, blockOf(4, int(uint(tag)%8), rest))
	})
}
