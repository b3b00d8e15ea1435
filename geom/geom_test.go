package geom_test

import (
	"math"
	"math/rand"
	"testing"

	"rickyard/api"
	"rickyard/geom"
)

// place is what Place answers.
type place struct {
	top, fan, seat int
	ok             bool
}

// placeOf is a slot's.
func placeOf(slot int) place {
	top, fan, seat, ok := geom.Place(slot)
	return place{top, fan, seat, ok}
}

// of is a geometry.
func of(blocks, slots, gens int) api.Geometry {
	return api.Geometry{Blocks: blocks, Slots: slots, Gens: gens}
}

// far are numbers that are nowhere right but for Gens: around all that could wrap round.
func far() []int {
	return []int{math.MinInt, math.MinInt + 1, math.MinInt / 2, math.MinInt / 4, -1 << 32, -1<<32 + 16, -1 << 31, -3072, -1792, -385, -384, -113, -112, -16, -8, -7, -2, -1,
		1<<31 - 1, 1 << 31, 1<<32 - 1, 1 << 32, 1<<32 + 1, 1<<32 + 16, 1<<32 + 1792, 1<<32 + 3072, 1 << 61, 1<<62 - 1, 1 << 62, 1<<62 + 16, math.MaxInt - 7, math.MaxInt - 1, math.MaxInt}
}

// edgesOfBlocks are numbers of Blocks, right and wrong.
func edgesOfBlocks() []int {
	return append(far(), 0, 1, 14, 15, 16, 17, 163, 164, 165, 383, 384, 385, 386, 403, 404, 405, 767, 768, 769, 1536, 1537, 2687, 2688, 2689, 3071, 3072, 3073, 3074)
}

// edgesOfSlots are numbers of Slots, right and wrong.
func edgesOfSlots() []int {
	return append(far(), 0, 1, 2, 6, 7, 8, 14, 15, 64, 111, 112, 113, 119, 120, 224, 225, 1680, 1681, 1785, 1786, 1790, 1791, 1792, 1793, 1794)
}

// edgesOfGens are numbers of Gens, right and wrong.
func edgesOfGens() []int {
	return append(far(), 0, 1, 2, 9, 1<<32-2)
}

// isRight is the document's own words for a right geometry.
func isRight(g api.Geometry) bool {
	wrong := g.Blocks < 16 || g.Blocks > 3072 || g.Slots < 1 || g.Slots > 1792 || g.Gens < 1 || g.Gens > 4294967295
	return !wrong
}

// counted is how many pieces are filled, each with so many, until all n are told: gone through one by one.
func counted(n, each int) int {
	out, room := 0, 0
	for range n {
		if room == 0 {
			out, room = out+1, each
		}
		room--
	}
	return out
}

// chartsOf is the document's own words for the charts.
func chartsOf(g api.Geometry) int {
	if !isRight(g) {
		return 0
	}
	return counted(g.Blocks, 384)
}

// leavesOf is the document's own words for the leaves.
func leavesOf(n int) int {
	if n < 0 || n > 1792 {
		return 0
	}
	return counted(n, 7)
}

// fansOf is the document's own words for the fans.
func fansOf(n int) int {
	if n <= 0 || n > 1792 {
		return 0
	}
	return counted(leavesOf(n), 16) + 1
}

// boundOf is the document's own words for the bound; false: there is none.
func boundOf(g api.Geometry, entries int) (int, bool) {
	if !isRight(g) || entries < 0 || entries > g.Slots {
		return 0, false
	}
	return 4*(entries+leavesOf(g.Slots)+fansOf(g.Slots)+chartsOf(g)+17) + 80, true
}

// rightAre fails if a geometry isn't told as right, or wrong, with so many charts.
func rightAre(t *testing.T, g api.Geometry, right bool, charts int) {
	t.Helper()
	if got := geom.Right(g); got != right {
		t.Errorf("%v: Right: %v", g, got)
	}
	if got := geom.Charts(g); got != charts {
		t.Errorf("%v: Charts: %d, not %d", g, got, charts)
	}
}

// boundIs fails if the bound is another one, or what fits is told otherwise.
func boundIs(t *testing.T, g api.Geometry, entries, bound int, fits bool) {
	t.Helper()
	if got := geom.Bound(g, entries); got != bound {
		t.Errorf("%v, %d: Bound: %d, not %d", g, entries, got, bound)
	}
	if got := geom.Fits(g, entries); got != fits {
		t.Errorf("%v, %d: Fits: %v", g, entries, got)
	}
}

func TestRightAtTheEdges(t *testing.T) { // P12.1
	for _, g := range []api.Geometry{of(16, 1, 1), of(3072, 1792, 4294967295), of(16, 1792, 1), of(3072, 1, 1), of(16, 1, 4294967295), of(3072, 1, 4294967295), of(16, 1792, 4294967295), of(3072, 1792, 1),
		of(17, 2, 2), of(3071, 1791, 4294967294), of(400, 64, 3), of(383, 7, 1), of(384, 8, 1), of(385, 112, 1), of(404, 113, 1<<31)} {
		if !geom.Right(g) {
			t.Errorf("%v: wrong", g)
		}
	}
	for _, g := range []api.Geometry{{}, of(0, 0, 1), of(1, 16, 1), of(1, 1, 16), of(3073, 1793, 1<<32), of(15, 0, 0), of(math.MinInt, math.MinInt, math.MinInt), of(math.MaxInt, math.MaxInt, math.MaxInt), of(-16, -1, -1)} {
		rightAre(t, g, false, 0)
	}
}

func TestRightButForOne(t *testing.T) { // P12.1
	for _, g := range []api.Geometry{of(16, 1, 1), of(400, 64, 3), of(3072, 1792, 4294967295)} {
		for _, blocks := range append(far(), 0, 1, 14, 15, 3073, 3074, 4095, 4096, 4097) {
			rightAre(t, of(blocks, g.Slots, g.Gens), false, 0)
			boundIs(t, of(blocks, g.Slots, g.Gens), 0, 0, false)
			boundIs(t, of(blocks, g.Slots, g.Gens), 1, 0, false)
		}
		for _, slots := range append(far(), 0, 1793, 1794, 3072) {
			rightAre(t, of(g.Blocks, slots, g.Gens), false, 0)
			boundIs(t, of(g.Blocks, slots, g.Gens), 0, 0, false)
			boundIs(t, of(g.Blocks, slots, g.Gens), 1, 0, false)
			boundIs(t, of(g.Blocks, slots, g.Gens), slots, 0, false)
		}
		for _, gens := range []int{math.MinInt, math.MinInt + 1, -1 << 32, 1 - 1<<32, -1 << 31, -2, -1, 0, 1 << 32, 1<<32 + 1, 1 << 33, 1 << 62, math.MaxInt - 1, math.MaxInt} {
			rightAre(t, of(g.Blocks, g.Slots, gens), false, 0)
			boundIs(t, of(g.Blocks, g.Slots, gens), 0, 0, false)
			boundIs(t, of(g.Blocks, g.Slots, gens), 1, 0, false)
		}
	}
}

func TestRightOfAllEdges(t *testing.T) { // P12.1, P12.3: whatever the three are beside one another
	for _, blocks := range edgesOfBlocks() {
		for _, slots := range edgesOfSlots() {
			for _, gens := range edgesOfGens() {
				g := of(blocks, slots, gens)
				rightAre(t, g, isRight(g), chartsOf(g))
				bound, there := boundOf(g, 1)
				boundIs(t, g, 1, bound, there && bound <= blocks)
			}
		}
	}
}

func TestCharts(t *testing.T) { // P12.1
	for _, x := range [][2]int{{16, 1}, {17, 1}, {383, 1}, {384, 1}, {385, 2}, {400, 2}, {768, 2}, {769, 3}, {1152, 3}, {1153, 4}, {1536, 4}, {1537, 5}, {1920, 5}, {1921, 6}, {2304, 6}, {2305, 7},
		{2688, 7}, {2689, 8}, {3071, 8}, {3072, 8}} {
		for _, slots := range []int{1, 64, 1792} {
			for _, gens := range []int{1, 9, 4294967295} {
				rightAre(t, of(x[0], slots, gens), true, x[1])
			}
		}
	}
	for blocks := -10; blocks < 3500; blocks++ {
		g := of(blocks, 9, 9)
		rightAre(t, g, blocks >= 16 && blocks <= 3072, chartsOf(g))
	}
}

func TestLeavesAndFans(t *testing.T) { // P12.1
	for _, x := range [][3]int{{0, 0, 0}, {1, 1, 2}, {2, 1, 2}, {6, 1, 2}, {7, 1, 2}, {8, 2, 2}, {14, 2, 2}, {15, 3, 2}, {64, 10, 2}, {105, 15, 2}, {106, 16, 2}, {111, 16, 2}, {112, 16, 2}, {113, 17, 3}, {120, 18, 3},
		{224, 32, 3}, {225, 33, 4}, {1680, 240, 16}, {1681, 241, 17}, {1785, 255, 17}, {1786, 256, 17}, {1791, 256, 17}, {1792, 256, 17},
		{1793, 0, 0}, {1794, 0, 0}, {3584, 0, 0}, {-1, 0, 0}, {-7, 0, 0}, {-1792, 0, 0}, {math.MinInt, 0, 0}, {math.MaxInt, 0, 0}} {
		if leaves, fans := geom.Leaves(x[0]), geom.Fans(x[0]); leaves != x[1] || fans != x[2] {
			t.Errorf("%d: %d leaves, %d fans, not %d and %d", x[0], leaves, fans, x[1], x[2])
		}
	}
	for _, n := range far() {
		if leaves, fans := geom.Leaves(n), geom.Fans(n); leaves != 0 || fans != 0 {
			t.Errorf("%d: %d leaves, %d fans", n, leaves, fans)
		}
	}
	for n := -2000; n < 4000; n++ {
		if leaves, fans := geom.Leaves(n), geom.Fans(n); leaves != leavesOf(n) || fans != fansOf(n) {
			t.Errorf("%d: %d leaves, %d fans, not %d and %d", n, leaves, fans, leavesOf(n), fansOf(n))
		}
	}
}

func TestPlace(t *testing.T) { // P12.2
	for _, x := range []struct {
		slot int
		want place
	}{
		{0, place{0, 0, 0, true}}, {1, place{0, 0, 1, true}}, {6, place{0, 0, 6, true}}, {7, place{0, 1, 0, true}}, {8, place{0, 1, 1, true}}, {13, place{0, 1, 6, true}}, {14, place{0, 2, 0, true}},
		{16, place{0, 2, 2, true}}, {104, place{0, 14, 6, true}}, {105, place{0, 15, 0, true}}, {111, place{0, 15, 6, true}}, {112, place{1, 0, 0, true}}, {113, place{1, 0, 1, true}}, {118, place{1, 0, 6, true}},
		{119, place{1, 1, 0, true}}, {120, place{1, 1, 1, true}}, {223, place{1, 15, 6, true}}, {224, place{2, 0, 0, true}}, {1679, place{14, 15, 6, true}}, {1680, place{15, 0, 0, true}},
		{1784, place{15, 14, 6, true}}, {1785, place{15, 15, 0, true}}, {1790, place{15, 15, 5, true}}, {1791, place{15, 15, 6, true}},
		{-1, place{}}, {-7, place{}}, {-112, place{}}, {-1792, place{}}, {1792, place{}}, {1793, place{}}, {3584, place{}}, {math.MinInt, place{}}, {math.MaxInt, place{}},
	} {
		if got := placeOf(x.slot); got != x.want {
			t.Errorf("%d: %v, not %v", x.slot, got, x.want)
		}
	}
	for _, slot := range far() {
		if got := placeOf(slot); got != (place{}) {
			t.Errorf("%d: %v", slot, got)
		}
	}
}

func TestPlacesOneBehindTheOther(t *testing.T) { // P12.2: the seats of a leaf, the leaves of a fan, the fans of the top one, each in turn
	slot := 0
	for top := range 16 {
		for fan := range 16 {
			for seat := range 7 {
				if got, want := placeOf(slot), (place{top, fan, seat, true}); got != want {
					t.Errorf("%d: %v, not %v", slot, got, want)
				}
				slot++
			}
		}
	}
	if got := placeOf(slot); slot != 1792 || got != (place{}) {
		t.Errorf("%d: %v", slot, got)
	}
}

func TestBoundOfTheExample(t *testing.T) { // P12.3
	boundIs(t, of(400, 64, 1), 50, 404, false)
	boundIs(t, of(400, 64, 4294967295), 50, 404, false)
	boundIs(t, of(400, 64, 1), 49, 400, true)
	boundIs(t, of(400, 64, 1), 48, 396, true)
	boundIs(t, of(403, 64, 1), 50, 404, false)
	boundIs(t, of(404, 64, 1), 50, 404, true)
	boundIs(t, of(405, 64, 1), 50, 404, true)
	boundIs(t, of(404, 64, 1), 51, 408, false)
	boundIs(t, of(3072, 64, 1), 50, 428, true)
}

func TestBoundAtTheEdges(t *testing.T) { // P12.3
	boundIs(t, of(16, 1, 1), 0, 164, false)
	boundIs(t, of(163, 1, 1), 0, 164, false)
	boundIs(t, of(164, 1, 1), 0, 164, true)
	boundIs(t, of(165, 1, 1), 0, 164, true)
	boundIs(t, of(164, 1, 1), 1, 168, false)
	boundIs(t, of(167, 1, 1), 1, 168, false)
	boundIs(t, of(168, 1, 1), 1, 168, true)
	boundIs(t, of(384, 64, 1), 46, 384, true) // one chart: just as many
	boundIs(t, of(384, 64, 1), 47, 388, false)
	boundIs(t, of(385, 64, 1), 46, 388, false) // the block more asks for a chart more
	boundIs(t, of(3072, 1792, 1), 0, 1272, true)
	boundIs(t, of(3072, 1792, 1), 449, 3068, true)
	boundIs(t, of(3072, 1792, 1), 450, 3072, true)
	boundIs(t, of(3071, 1792, 1), 450, 3072, false)
	boundIs(t, of(3072, 1792, 1), 451, 3076, false)
	boundIs(t, of(3072, 1792, 1), 1791, 8436, false)
	boundIs(t, of(3072, 1792, 1), 1792, 8440, false)
	for _, slots := range []int{1, 2, 7, 8, 64, 112, 113, 1791, 1792} {
		for _, entries := range append(far(), slots+1, slots+2, 1793, 3072) {
			boundIs(t, of(3072, slots, 9), entries, 0, false)
			boundIs(t, of(16, slots, 9), entries, 0, false)
		}
	}
}

func TestBoundAroundTheBlocks(t *testing.T) { // P12.3: one block too few, just as many, one too many
	around := map[int]int{}
	for blocks := 16; blocks <= 3072; blocks++ {
		for _, slots := range []int{1, 7, 8, 64, 112, 113, 400, 1791, 1792} {
			g := of(blocks, slots, 5)
			free, _ := boundOf(g, 0)
			for _, entries := range []int{0, (blocks-free)/4 - 1, (blocks - free) / 4, (blocks-free)/4 + 1, (blocks-free)/4 + 2, slots} {
				bound, there := boundOf(g, entries)
				boundIs(t, g, entries, bound, there && bound <= blocks)
				if there {
					around[bound-blocks]++
				}
			}
		}
	}
	for off := -1; off <= 1; off++ {
		if around[off] == 0 {
			t.Errorf("no bound that is the Blocks and %d", off)
		}
	}
}

func TestBoundOfAllEntries(t *testing.T) { // P12.3
	for _, blocks := range []int{16, 383, 384, 385, 404, 3072} {
		for _, slots := range []int{1, 7, 8, 112, 113, 1791, 1792} {
			for entries := -3; entries < slots+4; entries++ {
				g := of(blocks, slots, 1<<32-1)
				bound, there := boundOf(g, entries)
				boundIs(t, g, entries, bound, there && bound <= blocks)
			}
		}
	}
}

func TestUnlikeSlotsUnlikePlaces(t *testing.T) { // P12.4
	for a := range api.MaxSlots {
		for b := range a {
			if placeOf(a) == placeOf(b) {
				t.Errorf("%d, %d: %v", a, b, placeOf(a))
			}
		}
	}
}

func TestFewerSlotsNoMorePages(t *testing.T) { // P12.4
	for n := range api.MaxSlots {
		if fewer, more := geom.Leaves(n), geom.Leaves(n+1); fewer > more {
			t.Errorf("%d: %d leaves, then %d", n, fewer, more)
		}
		if fewer, more := geom.Fans(n), geom.Fans(n+1); fewer > more {
			t.Errorf("%d: %d fans, then %d", n, fewer, more)
		}
	}
}

func TestPagesOfAllPlaces(t *testing.T) { // P12.1, P12.4: the places of so many slots are in just so many leaves and fans
	leaves, fans := map[[2]int]int{}, map[int]int{}
	for slot := range api.MaxSlots {
		p := placeOf(slot)
		leaves[[2]int{p.top, p.fan}]++
		fans[p.top]++
		if n := slot + 1; geom.Leaves(n) != len(leaves) || geom.Fans(n) != len(fans)+1 {
			t.Errorf("%d: %d leaves, %d fans, not %d and %d", n, geom.Leaves(n), geom.Fans(n), len(leaves), len(fans)+1)
		}
	}
	for at, seats := range leaves {
		if seats != api.Seats {
			t.Errorf("%v: %d seats", at, seats)
		}
	}
}

// held fails if anything of some numbers isn't told as the document's own words tell it.
func held(t *testing.T, g api.Geometry, n int) {
	t.Helper()
	rightAre(t, g, isRight(g), chartsOf(g))
	bound, there := boundOf(g, n)
	boundIs(t, g, n, bound, there && bound <= g.Blocks)
	if leaves, fans := geom.Leaves(n), geom.Fans(n); leaves != leavesOf(n) || fans != fansOf(n) {
		t.Errorf("%d: %d leaves, %d fans, not %d and %d", n, leaves, fans, leavesOf(n), fansOf(n))
	}
	p := placeOf(n)
	if n < 0 || n > 1791 {
		if p != (place{}) {
			t.Errorf("%d: %v", n, p)
		}
		return
	}
	if !p.ok || p.top < 0 || p.top > 15 || p.fan < 0 || p.fan > 15 || p.seat < 0 || p.seat > 6 || 112*p.top+7*p.fan+p.seat != n {
		t.Errorf("%d: %v", n, p)
	}
}

// drawn is a number that is often within what may be.
func drawn(r *rand.Rand, most int) int {
	switch r.Intn(12) {
	case 0:
		return int(r.Uint64())
	case 1:
		return int(r.Uint64()) >> r.Intn(64)
	default:
		return r.Intn(most + 2)
	}
}

func TestModel(t *testing.T) { // P12.1 to P12.3
	r := rand.New(rand.NewSource(12))
	for range 30000 {
		g := of(drawn(r, 3072), drawn(r, 1792), drawn(r, 1<<32-1))
		held(t, g, drawn(r, 1792))
		held(t, g, r.Intn(100))
	}
}

func TestTwice(t *testing.T) { // P12.1 to P12.3: nothing is kept from call to call
	g, other := of(400, 64, 9), of(3072, 1792, 1)
	for range 3 {
		held(t, g, 50)
		held(t, other, 1792)
		held(t, api.Geometry{}, -1)
	}
}

func FuzzGeom(f *testing.F) { // P12.1 to P12.3
	f.Add(16, 1, 1, 0)
	f.Add(400, 64, 4294967295, 50)
	f.Add(3072, 1792, 1, 1792)
	f.Add(3073, 1793, 4294967296, 1793)
	f.Add(-1, math.MaxInt, math.MinInt, -1)
	f.Fuzz(func(t *testing.T, blocks, slots, gens, n int) {
		held(t, of(blocks, slots, gens), n)
	})
}
