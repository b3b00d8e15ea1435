package page_test

import (
	"bytes"
	"encoding/binary"
	"encoding/hex"
	"hash/crc32"
	"math"
	"math/rand"
	"slices"
	"testing"

	"rickyard/api"
	"rickyard/page"
)

// live is a Live seat of these numbers.
func live(gen, next int) api.Seat {
	return api.Seat{Live: true, Gen: gen, Next: next}
}

// free is a seat of these numbers that isn't Live.
func free(gen, next int) api.Seat {
	return api.Seat{Gen: gen, Next: next}
}

// all is a leaf of one seat, at each place.
func all(x api.Seat) api.Leaf {
	return api.Leaf{Seats: [7]api.Seat{x, x, x, x, x, x, x}}
}

// with is a leaf with another seat at a place.
func with(l api.Leaf, at int, x api.Seat) api.Leaf {
	l.Seats[at] = x
	return l
}

// fanOf is a fan of these kids, the first ones.
func fanOf(kids ...int) api.Fan {
	var f api.Fan
	copy(f.Kids[:], kids)
	return f
}

// fanWith is a fan with another kid at a place.
func fanWith(f api.Fan, at, kid int) api.Fan {
	f.Kids[at] = kid
	return f
}

// blockOf are 64 octets of any kind and tag, with the right sum: known of another program's tables.
func blockOf(kind, tag int, body []byte) []byte {
	rest := make([]byte, 60)
	rest[0], rest[1] = byte(kind), byte(tag)
	copy(rest[4:], body)
	sum := crc32.Checksum(rest, crc32.MakeTable(crc32.Castagnoli))
	return append(binary.LittleEndian.AppendUint32(nil, sum), rest...)
}

// tagOf is a leaf's tag by the document's own words.
func tagOf(l api.Leaf) int {
	sum := 0
	for i, power := range []int{1, 2, 4, 8, 16, 32, 64} {
		if l.Seats[i].Live {
			sum += power
		}
	}
	return sum
}

// leafBody is a leaf's body by the document's own words, whatever the numbers are.
func leafBody(l api.Leaf) []byte {
	var b []byte
	for _, x := range l.Seats {
		b = binary.LittleEndian.AppendUint32(b, uint32(x.Gen))
		b = binary.LittleEndian.AppendUint32(b, uint32(x.Next))
	}
	return b
}

// fanBody is a fan's body by the document's own words, whatever the numbers are.
func fanBody(f api.Fan) []byte {
	var b []byte
	for _, kid := range f.Kids {
		b = binary.LittleEndian.AppendUint16(b, uint16(kid))
	}
	return append(b, make([]byte, 24)...)
}

// laidLeaf is a leaf's block by the document's own words, with the right sum, whatever the numbers are.
func laidLeaf(l api.Leaf) []byte {
	return blockOf(2, tagOf(l), leafBody(l))
}

// laidFan is the same of a fan.
func laidFan(f api.Fan) []byte {
	return blockOf(3, 0, fanBody(f))
}

// isRightSeat is the document's own words for a right seat.
func isRightSeat(x api.Seat) bool {
	if x.Live {
		return x.Gen >= 1 && x.Gen <= 4294967295 && x.Next >= 2 && x.Next <= 3071
	}
	return x.Gen >= 0 && x.Gen <= 4294967295 && x.Next >= 0 && x.Next <= 1792 && (x.Gen != 0 || x.Next == 0)
}

// isRightLeaf is the document's own words for a right leaf.
func isRightLeaf(l api.Leaf) bool {
	return !slices.ContainsFunc(l.Seats[:], func(x api.Seat) bool { return !isRightSeat(x) })
}

// isRightFan is the document's own words for a right fan.
func isRightFan(f api.Fan) bool {
	return !slices.ContainsFunc(f.Kids[:], func(kid int) bool { return kid != 0 && (kid < 2 || kid > 3071) })
}

// rightSeats are right seats, no two of them alike.
func rightSeats() []api.Seat {
	out := []api.Seat{{}}
	for _, gen := range []int{1, 2, 255, 256, 258, 1 << 16, 1<<31 - 1, 1 << 31, 1<<32 - 2, 1<<32 - 1} {
		for _, next := range []int{2, 3, 255, 256, 258, 1791, 1792, 1793, 2047, 2048, 3070, 3071} {
			out = append(out, live(gen, next))
		}
		for _, next := range []int{0, 1, 2, 255, 256, 258, 1791, 1792} {
			out = append(out, free(gen, next))
		}
	}
	return out
}

// wrongSeats are seats that aren't right, most of them by one number alone.
func wrongSeats() []api.Seat {
	var out []api.Seat
	for _, gen := range []int{-1, -2, 1 << 32, 1<<32 + 1, 1<<33 + 1, -1 << 32, 1 - 1<<32, math.MaxInt, math.MinInt, math.MinInt + 1} {
		out = append(out, live(gen, 2), live(gen, 3071), live(gen, 0), free(gen, 0), free(gen, 1), free(gen, 1792), free(gen, 1793))
	}
	for _, next := range []int{-1, -2, 3072, 3073, 1 << 16, 1<<16 + 2, 1 << 32, 1<<32 + 2, -1 << 32, 2 - 1<<32, math.MaxInt, math.MinInt, math.MinInt + 2} {
		for _, gen := range []int{0, 1, 1<<32 - 1} {
			out = append(out, live(gen, next), free(gen, next))
		}
	}
	for _, gen := range []int{1, 2, 1<<32 - 1} {
		out = append(out, live(gen, 0), live(gen, 1), free(gen, 1793), free(gen, 1794), free(gen, 3071))
	}
	for _, next := range []int{0, 1, 2, 3, 5, 1791, 1792, 1793, 3071} {
		out = append(out, live(0, next))
		if next != 0 {
			out = append(out, free(0, next))
		}
	}
	return out
}

// rightLeaves are right leaves, no two of them alike.
func rightLeaves() []api.Leaf {
	out := []api.Leaf{{}}
	bases := []api.Leaf{{}, all(free(7, 9)), all(live(4294967295, 3071))}
	seats := rightSeats()[1:]
	for at := range 7 {
		for _, x := range seats {
			out = append(out, with(bases[0], at, x))
			out = append(out, with(with(bases[1], at, x), (at+1)%7, free(1000+at, 0)))
			out = append(out, with(with(bases[2], at, x), (at+1)%7, live(2000+at, 2)))
		}
	}
	for set := range 128 { // each set of Live ones
		var l api.Leaf
		for i := range l.Seats {
			l.Seats[i] = api.Seat{Live: set>>i&1 == 1, Gen: 11 + i, Next: 21 + 256*i}
		}
		out = append(out, l)
	}
	return append(out, bases[1:]...)
}

// wrongLeaves are leaves that aren't right, each wrong seat at each place.
func wrongLeaves() []api.Leaf {
	var out []api.Leaf
	for _, x := range wrongSeats() {
		out = append(out, all(x))
		for at := range 7 {
			out = append(out, with(api.Leaf{}, at, x), with(all(live(1, 2)), at, x), with(all(free(1, 2)), at, x))
		}
	}
	return out
}

// rightFans are right fans, no two of them alike.
func rightFans() []api.Fan {
	out := []api.Fan{{}}
	var whole api.Fan
	for i := range whole.Kids {
		whole.Kids[i] = 3000 - 200*i + i
	}
	for at := range 16 {
		for _, kid := range []int{2, 3, 255, 256, 257, 258, 511, 512, 1791, 1792, 2047, 2048, 3070, 3071} {
			out = append(out, fanWith(api.Fan{}, at, kid), fanWith(whole, at, kid))
		}
		out = append(out, fanWith(whole, at, 0))
	}
	for n := 2; n <= 16; n++ {
		out = append(out, fanOf(slices.Repeat([]int{3071}, n)...))
	}
	return append(out, whole, fanOf(20, 21), fanOf(21, 20))
}

// wrongFans are fans that aren't right, each wrong kid at each place.
func wrongFans() []api.Fan {
	var out []api.Fan
	for _, kid := range []int{1, -1, -2, 3072, 3073, 1<<16 - 1, 1 << 16, 1<<16 + 2, 2 - 1<<16, 1 << 32, 1<<32 + 2, -1 << 32, math.MaxInt, math.MinInt, math.MinInt + 2} {
		for at := range 16 {
			out = append(out, fanWith(api.Fan{}, at, kid), fanWith(fanOf(slices.Repeat([]int{2}, 16)...), at, kid), fanWith(fanOf(slices.Repeat([]int{3071}, 16)...), at, kid))
		}
		out = append(out, fanOf(slices.Repeat([]int{kid}, 16)...))
	}
	return out
}

// noLeaf fails if octets are told as a leaf.
func noLeaf(t *testing.T, why string, b []byte) {
	t.Helper()
	if l, ok := page.GetLeaf(b); ok || l != (api.Leaf{}) {
		t.Errorf("%s: %x: %v, %v", why, b, l, ok)
	}
}

// noFan fails if octets are told as a fan.
func noFan(t *testing.T, why string, b []byte) {
	t.Helper()
	if f, ok := page.GetFan(b); ok || f != (api.Fan{}) {
		t.Errorf("%s: %x: %v, %v", why, b, f, ok)
	}
}

// none fails if octets are told as a leaf or a fan.
func none(t *testing.T, why string, b []byte) {
	t.Helper()
	noLeaf(t, why, b)
	noFan(t, why, b)
}

// gotLeaf fails if octets aren't told as that leaf.
func gotLeaf(t *testing.T, b []byte, want api.Leaf) {
	t.Helper()
	if l, ok := page.GetLeaf(b); !ok || l != want {
		t.Errorf("%x: %v, %v, not %v", b, l, ok, want)
	}
}

// gotFan fails if octets aren't told as that fan.
func gotFan(t *testing.T, b []byte, want api.Fan) {
	t.Helper()
	if f, ok := page.GetFan(b); !ok || f != want {
		t.Errorf("%x: %v, %v, not %v", b, f, ok, want)
	}
}

func TestRightSeat(t *testing.T) { // P9.1
	for _, x := range rightSeats() {
		if !page.RightSeat(x) {
			t.Errorf("%v isn't right", x)
		}
	}
	for _, x := range wrongSeats() {
		if page.RightSeat(x) {
			t.Errorf("%v is right", x)
		}
	}
}

func TestRightSeatAtTheEdges(t *testing.T) { // P9.1: what the chapter says, written out
	gens := []int{math.MinInt, -1 << 32, -1, 0, 1, 2, 1<<32 - 1, 1 << 32, 1<<32 + 1, math.MaxInt}
	for _, gen := range gens {
		for next, right := range map[int]bool{math.MinInt: false, -1: false, 0: false, 1: false, 2: true, 1792: true, 1793: true, 3071: true, 3072: false, 1<<32 + 2: false, math.MaxInt: false} {
			want := right && (gen == 1 || gen == 2 || gen == 1<<32-1)
			if got := page.RightSeat(live(gen, next)); got != want {
				t.Errorf("Live, %d, %d: %v", gen, next, got)
			}
		}
		for next, right := range map[int]bool{math.MinInt: false, -1: false, 0: true, 1: true, 2: true, 1792: true, 1793: false, 3071: false, 3072: false, 1 << 32: false, math.MaxInt: false} {
			want := right && (gen == 1 || gen == 2 || gen == 1<<32-1) || gen == 0 && next == 0
			if got := page.RightSeat(free(gen, next)); got != want {
				t.Errorf("not Live, %d, %d: %v", gen, next, got)
			}
		}
	}
}

func TestRightSeatOfEachNumber(t *testing.T) { // P9.1
	for v := -5; v < 5000; v++ {
		for _, c := range []struct {
			x    api.Seat
			want bool
		}{
			{live(v, 2), v >= 1},
			{live(1<<32-2500+v, 2), v < 2500},
			{live(1, v), v >= 2 && v <= 3071},
			{free(v, 0), v >= 0},
			{free(v, 1), v >= 1},
			{free(1<<32-2500+v, 1), v < 2500},
			{free(1, v), v >= 0 && v <= 1792},
			{free(0, v), v == 0},
			{live(0, v), false},
		} {
			if got := page.RightSeat(c.x); got != c.want {
				t.Errorf("%v: %v", c.x, got)
			}
		}
	}
}

func TestPutLeaf(t *testing.T) { // P9.1
	for _, l := range rightLeaves() {
		if b, ok := page.PutLeaf(l); !ok || !bytes.Equal(b, laidLeaf(l)) {
			t.Errorf("%v: %x, %v, not %x", l, b, ok, laidLeaf(l))
		}
	}
}

func TestPutFan(t *testing.T) { // P9.1
	for _, f := range rightFans() {
		if b, ok := page.PutFan(f); !ok || !bytes.Equal(b, laidFan(f)) {
			t.Errorf("%v: %x, %v, not %x", f, b, ok, laidFan(f))
		}
	}
}

func TestLeafOctetByOctet(t *testing.T) { // P9.1: a block written out, the sum too
	l := api.Leaf{Seats: [7]api.Seat{live(1, 3071), free(0, 0), free(4294967295, 1792), free(258, 0), live(4294967295, 2), free(1, 1), live(0x01020304, 258)}}
	want := "5a455779" + "02510000" + "01000000ff0b0000" + "0000000000000000" + "ffffffff00070000" + "0201000000000000" + "ffffffff02000000" + "0100000001000000" + "0403020102010000"
	b, ok := page.PutLeaf(l)
	if !ok || hex.EncodeToString(b) != want {
		t.Errorf("%x, %v, not %s", b, ok, want)
	}
	gotLeaf(t, b, l)
}

func TestFanOctetByOctet(t *testing.T) { // P9.1: a block written out, the sum too
	f := fanOf(2, 0, 3071, 258, 0, 0, 0, 256, 255, 0, 0, 0, 0, 0, 0, 513)
	want := "e552fe93" + "03000000" + "02000000ff0b02010000000000000001" + "ff000000000000000000000000000102" + "000000000000000000000000000000000000000000000000"
	b, ok := page.PutFan(f)
	if !ok || hex.EncodeToString(b) != want {
		t.Errorf("%x, %v, not %s", b, ok, want)
	}
	gotFan(t, b, f)
}

func TestNeverIssued(t *testing.T) { // P9.1: the chapter's example
	b, ok := page.PutLeaf(api.Leaf{})
	if !ok || len(b) != 64 || b[4] != 2 || b[5] != 0 || !bytes.Equal(b[6:], make([]byte, 58)) {
		t.Errorf("%x, %v", b, ok)
	}
	gotLeaf(t, b, api.Leaf{})
	noFan(t, "a leaf", b)
	if lives := page.Lives(api.Leaf{}); lives != 0 {
		t.Errorf("%d are Live", lives)
	}
}

func TestFanWithoutKids(t *testing.T) { // P9.1
	b, ok := page.PutFan(api.Fan{})
	if !ok || len(b) != 64 || b[4] != 3 || !bytes.Equal(b[5:], make([]byte, 59)) {
		t.Errorf("%x, %v", b, ok)
	}
	gotFan(t, b, api.Fan{})
	noLeaf(t, "a fan", b)
}

func TestTags(t *testing.T) { // P9.1: each place Live by itself, none and all of them
	for at, tag := range []byte{1, 2, 4, 8, 16, 32, 64} {
		l := with(all(free(5, 6)), at, live(5, 6))
		b, ok := page.PutLeaf(l)
		if !ok || b[5] != tag {
			t.Errorf("%d: %x, %v", at, b, ok)
		}
		gotLeaf(t, b, l)
		l = with(all(live(5, 6)), at, free(5, 6))
		b, ok = page.PutLeaf(l)
		if !ok || b[5] != 127-tag {
			t.Errorf("all but %d: %x, %v", at, b, ok)
		}
		gotLeaf(t, b, l)
	}
	for tag, l := range map[byte]api.Leaf{0: all(free(5, 6)), 127: all(live(5, 6))} {
		b, ok := page.PutLeaf(l)
		if !ok || b[5] != tag {
			t.Errorf("%d: %x, %v", tag, b, ok)
		}
		gotLeaf(t, b, l)
	}
}

func TestPutNone(t *testing.T) { // P9.1
	for _, l := range wrongLeaves() {
		if b, ok := page.PutLeaf(l); ok || len(b) != 0 {
			t.Errorf("%v: %x, %v", l, b, ok)
		}
	}
	for _, f := range wrongFans() {
		if b, ok := page.PutFan(f); ok || len(b) != 0 {
			t.Errorf("%v: %x, %v", f, b, ok)
		}
	}
}

func TestPutFanOfEachNumber(t *testing.T) { // P9.1
	for kid := -5; kid < 5000; kid++ {
		for _, at := range []int{0, 7, 15} {
			if b, ok := page.PutFan(fanWith(api.Fan{}, at, kid)); ok != (kid == 0 || kid >= 2 && kid <= 3071) || ok != (len(b) == 64) {
				t.Errorf("%d: %x, %v", kid, b, ok)
			}
		}
	}
}

func TestGet(t *testing.T) { // P9.1: octets that the test laid, not PutLeaf and PutFan
	for _, l := range rightLeaves() {
		gotLeaf(t, laidLeaf(l), l)
		noFan(t, "a leaf", laidLeaf(l))
	}
	for _, f := range rightFans() {
		gotFan(t, laidFan(f), f)
		noLeaf(t, "a fan", laidFan(f))
	}
}

func TestGetNoBlock(t *testing.T) { // P9.1
	none(t, "nil", nil)
	none(t, "no octets", []byte{})
	none(t, "64 noughts", make([]byte, 64))
	none(t, "64 octets of 255", bytes.Repeat([]byte{255}, 64))
	for _, whole := range [][]byte{laidLeaf(all(live(1, 2))), laidFan(fanOf(2, 3)), laidLeaf(api.Leaf{}), laidFan(api.Fan{})} {
		long := bytes.Repeat(whole, 2)
		for n := range long {
			if n != 64 {
				none(t, "the first ones alone", long[:n])
			}
		}
		none(t, "two blocks", long)
		none(t, "ahead of it", append([]byte{0}, whole...))
		none(t, "spare room that would fill it", whole[:63:64])
		none(t, "a body alone", whole[8:])
		for at := range whole {
			for by := 1; by < 256; by++ {
				b := bytes.Clone(whole)
				b[at] ^= byte(by)
				none(t, "an octet turned", b)
			}
		}
		for _, at := range []int{6, 7} { // the sum is right, but these two are noughts in a block
			rest := bytes.Clone(whole[4:])
			rest[at-4] = 1
			sum := crc32.Checksum(rest, crc32.MakeTable(crc32.Castagnoli))
			none(t, "no nought", append(binary.LittleEndian.AppendUint32(nil, sum), rest...))
		}
	}
}

func TestGetOtherKinds(t *testing.T) { // P9.1
	fan := fanOf(2, 0, 3, 0, 258)
	for _, l := range []api.Leaf{{}, all(free(1, 2)), all(live(1, 2))} {
		for kind := range 256 {
			b := blockOf(kind, tagOf(l), leafBody(l))
			if kind == 2 {
				gotLeaf(t, b, l)
			} else {
				noLeaf(t, "another kind", b)
			}
		}
	}
	for _, f := range []api.Fan{{}, fan} {
		for kind := range 256 {
			b := blockOf(kind, 0, fanBody(f))
			if kind == 3 {
				gotFan(t, b, f)
			} else {
				noFan(t, "another kind", b)
			}
		}
	}
	gotLeaf(t, blockOf(2, 0, fanBody(fan)), api.Leaf{Seats: [7]api.Seat{free(2, 3), free(258, 0)}}) // a body that both may have
	none(t, "a fan's body that no leaf has", blockOf(2, 0, fanBody(fanOf(0, 0, 2))))
	none(t, "a leaf's body that no fan has", blockOf(3, 0, leafBody(all(live(1, 2)))))
	none(t, "neither kind", blockOf(1, 0, nil))
	none(t, "neither kind", blockOf(4, 0, nil))
}

func TestGetLeafTags(t *testing.T) { // P9.1: the eighth bit, and seats that the body doesn't allow to be Live, or not to be
	var either, mixed api.Leaf
	for i := range 7 {
		either.Seats[i] = free(5, 6)                                    // Live, or not
		mixed.Seats[i] = []api.Seat{live(5, 1793), free(5, 1), {}}[i%3] // the one, or the other, alone
	}
	for tag := range 256 {
		l := either
		for i := range 7 {
			l.Seats[i].Live = tag>>i&1 == 1
		}
		b := blockOf(2, tag, leafBody(either))
		if tag < 128 {
			gotLeaf(t, b, l)
		} else {
			noLeaf(t, "an eighth bit", b)
		}
		b = blockOf(2, tag, leafBody(mixed))
		if tag == tagOf(mixed) {
			gotLeaf(t, b, mixed)
		} else {
			noLeaf(t, "another tag", b)
		}
		if b := blockOf(2, tag, nil); tag == 0 {
			gotLeaf(t, b, api.Leaf{})
		} else {
			noLeaf(t, "a Live seat that was never issued", b)
		}
	}
}

func TestGetFanTags(t *testing.T) { // P9.1
	for _, f := range []api.Fan{{}, fanOf(2), fanOf(slices.Repeat([]int{3071}, 16)...)} {
		for tag := range 256 {
			b := blockOf(3, tag, fanBody(f))
			if tag == 0 {
				gotFan(t, b, f)
			} else {
				noFan(t, "a tag", b)
			}
		}
	}
}

func TestGetFanBehindTheKids(t *testing.T) { // P9.1
	for _, f := range []api.Fan{{}, fanOf(slices.Repeat([]int{258}, 16)...)} {
		for at := 32; at < 56; at++ {
			for _, by := range []byte{1, 2, 128, 255} {
				b := fanBody(f)
				b[at] = by
				noFan(t, "no nought behind the Kids", blockOf(3, 0, b))
			}
		}
	}
}

func TestGetWrongSeats(t *testing.T) { // P9.1: in a block, at each place, beside right ones
	for _, x := range []api.Seat{
		live(0, 0), live(0, 2), live(0, 3071), live(1, 0), live(1, 1), live(1, 2), live(1, 3071), live(1, 3072), live(1, 1<<16+2), live(1, 1<<24+2), live(1, 1<<31), live(1, 1<<32-1),
		live(1<<32-1, 2), live(1<<32-1, 1), live(1<<31, 3071), live(1<<31, 3072),
		free(0, 0), free(0, 1), free(0, 2), free(0, 1792), free(0, 1<<31), free(0, 1<<16), free(0, 1<<32-1), free(1, 0), free(1, 1), free(1, 1792), free(1, 1793), free(1, 3071), free(1, 1<<16), free(1, 1<<24), free(1, 1<<31), free(1, 1<<32-1),
		free(1<<32-1, 0), free(1<<32-1, 1792), free(1<<32-1, 1793), free(1<<31, 1792), free(1<<31, 1793),
	} {
		for at := range 7 {
			for _, base := range []api.Leaf{{}, all(live(1<<32-1, 3071)), all(free(1<<32-1, 1792))} {
				l := with(base, at, x)
				if isRightSeat(x) {
					gotLeaf(t, laidLeaf(l), l)
				} else {
					noLeaf(t, "a wrong seat", laidLeaf(l))
				}
			}
		}
	}
}

func TestGetWrongKids(t *testing.T) { // P9.1: in a block, at each place, beside right ones
	for kid := range 1 << 16 {
		f := fanWith(fanOf(2, 0, 3071), kid%16, kid)
		if isRightFan(f) {
			gotFan(t, laidFan(f), f)
		} else {
			noFan(t, "a wrong kid", laidFan(f))
		}
	}
	for _, kid := range []int{0, 1, 2, 3071, 3072, 1<<16 - 1} {
		for at := range 16 {
			for _, base := range []api.Fan{{}, fanOf(slices.Repeat([]int{3071}, 16)...)} {
				f := fanWith(base, at, kid)
				if isRightFan(f) {
					gotFan(t, laidFan(f), f)
				} else {
					noFan(t, "a wrong kid", laidFan(f))
				}
			}
		}
	}
}

func TestLives(t *testing.T) { // P9.2: any leaf, right or not
	seats := append(rightSeats(), wrongSeats()...)
	for set := range 128 {
		want := 0
		for i := range 7 {
			want += set >> i & 1
		}
		for i, x := range seats {
			l := all(x)
			for at := range l.Seats {
				l.Seats[at] = seats[(i+at*31)%len(seats)]
				l.Seats[at].Live = set>>at&1 == 1
			}
			if lives := page.Lives(l); lives != want {
				t.Fatalf("%v: %d, not %d", l, lives, want)
			}
		}
	}
	for _, x := range []api.Seat{live(0, 0), live(math.MinInt, math.MaxInt), live(1, 2), live(-1, 1)} {
		if lives := page.Lives(all(x)); lives != 7 {
			t.Errorf("%v: %d", x, lives)
		}
		for at := range 7 {
			if lives := page.Lives(with(api.Leaf{}, at, x)); lives != 1 {
				t.Errorf("%v at %d: %d", x, at, lives)
			}
		}
	}
	for _, x := range []api.Seat{{}, free(1, 2), free(math.MaxInt, math.MinInt), free(0, 3071), free(-1, -1)} {
		if lives := page.Lives(all(x)); lives != 0 {
			t.Errorf("%v: %d", x, lives)
		}
	}
}

func TestEmpty(t *testing.T) { // P9.2: any fan, right or not
	if !page.Empty(api.Fan{}) {
		t.Error("a fan without kids isn't empty")
	}
	for _, kid := range []int{1, -1, 2, 3071, 3072, 256, 1 << 16, 1 << 32, -1 << 32, 1 << 62, math.MaxInt, math.MinInt} {
		for at := range 16 {
			if f := fanWith(api.Fan{}, at, kid); page.Empty(f) {
				t.Errorf("%v is empty", f)
			}
			if f := fanWith(fanWith(api.Fan{}, at, kid), (at+5)%16, -kid); page.Empty(f) { // the sum is 0
				t.Errorf("%v is empty", f)
			}
		}
		if f := fanOf(slices.Repeat([]int{kid}, 16)...); page.Empty(f) {
			t.Errorf("%v is empty", f)
		}
	}
}

func TestLeafThereAndBack(t *testing.T) { // P9.3
	for _, l := range rightLeaves() {
		b, ok := page.PutLeaf(l)
		if !ok {
			t.Fatalf("%v: none", l)
		}
		gotLeaf(t, b, l)
		m, _ := page.GetLeaf(b)
		if again, ok := page.PutLeaf(m); !ok || !bytes.Equal(again, b) {
			t.Errorf("%v: again %x, %v, not %x", l, again, ok, b)
		}
	}
}

func TestFanThereAndBack(t *testing.T) { // P9.3
	for _, f := range rightFans() {
		b, ok := page.PutFan(f)
		if !ok {
			t.Fatalf("%v: none", f)
		}
		gotFan(t, b, f)
		g, _ := page.GetFan(b)
		if again, ok := page.PutFan(g); !ok || !bytes.Equal(again, b) {
			t.Errorf("%v: again %x, %v, not %x", f, again, ok, b)
		}
	}
}

func TestUnlikeBlocks(t *testing.T) { // P9.3: leaves among each other, fans among each other, and the one and the other
	leaves, fans := map[string]api.Leaf{}, map[string]api.Fan{}
	for _, l := range rightLeaves() {
		b, ok := page.PutLeaf(l)
		if m, there := leaves[string(b)]; !ok || there && m != l {
			t.Errorf("%v, %v: %x, %v", l, m, b, ok)
		}
		leaves[string(b)] = l
	}
	for _, f := range rightFans() {
		b, ok := page.PutFan(f)
		if g, there := fans[string(b)]; !ok || there && g != f {
			t.Errorf("%v, %v: %x, %v", f, g, b, ok)
		}
		if l, there := leaves[string(b)]; there {
			t.Errorf("%v, %v: %x", f, l, b)
		}
		fans[string(b)] = f
	}
}

// octetsWithRoom is octets with room on both sides, all of it marked, and a copy of all; there is no more room than that.
func octetsWithRoom(b []byte) (inner, room, was []byte) {
	room = append(bytes.Repeat([]byte{170}, 8), b...)
	room = slices.Clip(append(room, bytes.Repeat([]byte{170}, 100)...))
	return room[8 : 8+len(b)], room, bytes.Clone(room)
}

func TestHandedInStays(t *testing.T) { // P9.3
	leaf, fan := laidLeaf(all(live(1, 2))), laidFan(fanOf(2, 3))
	for _, b := range [][]byte{nil, leaf, fan, laidLeaf(api.Leaf{}), laidFan(api.Fan{}), laidLeaf(all(live(0, 1))), laidFan(fanOf(1)), blockOf(2, 128, leaf[8:]), blockOf(3, 1, fan[8:]),
		blockOf(3, 0, leaf[8:]), blockOf(2, 0, fan[8:]), blockOf(1, 0, leaf[8:]), leaf[:63], fan[:63], make([]byte, 64), make([]byte, 65)} {
		inner, room, was := octetsWithRoom(b)
		page.GetLeaf(inner)
		page.GetFan(inner)
		if !bytes.Equal(room, was) {
			t.Errorf("%x: changed to %x", was, room)
		}
	}
}

// spoil fills octets and their spare room.
func spoil(b []byte) {
	b = b[:cap(b)]
	for i := range b {
		b[i] = 85
	}
}

// renewed fails if an answer isn't new memory, made again as it was.
func renewed(t *testing.T, want []byte, put func() ([]byte, bool)) {
	t.Helper()
	first, _ := put()
	second, _ := put()
	spoil(second)
	if !bytes.Equal(first, want) {
		t.Errorf("shared with an answer: %x, not %x", first, want)
	}
	spoil(first)
	if third, ok := put(); !ok || !bytes.Equal(third, want) {
		t.Errorf("changed by a caller: %x, not %x", third, want)
	}
}

func TestPutIsNew(t *testing.T) { // P9.3
	for _, l := range rightLeaves() {
		renewed(t, laidLeaf(l), func() ([]byte, bool) { return page.PutLeaf(l) })
	}
	for _, f := range rightFans() {
		renewed(t, laidFan(f), func() ([]byte, bool) { return page.PutFan(f) })
	}
}

func TestGetIsNew(t *testing.T) { // P9.3: the octets aren't kept
	for _, l := range rightLeaves() {
		b := laidLeaf(l)
		m, _ := page.GetLeaf(b)
		spoil(b)
		if m != l {
			t.Errorf("%v: kept: %v", l, m)
		}
		none(t, "spoilt", b)
		gotLeaf(t, laidLeaf(l), l)
	}
	for _, f := range rightFans() {
		b := laidFan(f)
		g, _ := page.GetFan(b)
		spoil(b)
		if g != f {
			t.Errorf("%v: kept: %v", f, g)
		}
		none(t, "spoilt", b)
		gotFan(t, laidFan(f), f)
	}
}

// toldLeaf is what the document's own words make of octets: the right leaf whose block they are.
func toldLeaf(b []byte) (api.Leaf, bool) {
	if len(b) != 64 {
		return api.Leaf{}, false
	}
	var l api.Leaf
	for i := range l.Seats {
		l.Seats[i] = api.Seat{Live: int(b[5])/(1<<i)%2 == 1, Gen: int(binary.LittleEndian.Uint32(b[8+8*i:])), Next: int(binary.LittleEndian.Uint32(b[12+8*i:]))}
	}
	if !isRightLeaf(l) || !bytes.Equal(b, laidLeaf(l)) {
		return api.Leaf{}, false
	}
	return l, true
}

// toldFan is the same of a fan.
func toldFan(b []byte) (api.Fan, bool) {
	if len(b) != 64 {
		return api.Fan{}, false
	}
	var f api.Fan
	for i := range f.Kids {
		f.Kids[i] = int(binary.LittleEndian.Uint16(b[8+2*i:]))
	}
	if !isRightFan(f) || !bytes.Equal(b, laidFan(f)) {
		return api.Fan{}, false
	}
	return f, true
}

// held fails if octets aren't told as the document's own words tell them.
func held(t *testing.T, b []byte) {
	t.Helper()
	if l, ok := toldLeaf(b); ok {
		gotLeaf(t, b, l)
	} else {
		noLeaf(t, "by its words", b)
	}
	if f, ok := toldFan(b); ok {
		gotFan(t, b, f)
	} else {
		noFan(t, "by its words", b)
	}
}

// heldLeaf fails if a leaf isn't put as the document's own words tell it.
func heldLeaf(t *testing.T, l api.Leaf) {
	t.Helper()
	for _, x := range l.Seats {
		if page.RightSeat(x) != isRightSeat(x) {
			t.Fatalf("%v: %v", x, !isRightSeat(x))
		}
	}
	b, ok := page.PutLeaf(l)
	if right := isRightLeaf(l); ok != right || !ok && len(b) != 0 || ok && !bytes.Equal(b, laidLeaf(l)) {
		t.Fatalf("%v: %x, %v", l, b, ok)
	}
	held(t, b)
}

// heldFan is the same of a fan.
func heldFan(t *testing.T, f api.Fan) {
	t.Helper()
	b, ok := page.PutFan(f)
	if right := isRightFan(f); ok != right || !ok && len(b) != 0 || ok && !bytes.Equal(b, laidFan(f)) {
		t.Fatalf("%v: %x, %v", f, b, ok)
	}
	held(t, b)
}

// drawnSeat is a seat that is most often right.
func drawnSeat(r *rand.Rand) api.Seat {
	switch r.Intn(8) {
	case 0:
		return api.Seat{Live: r.Intn(2) == 0, Gen: r.Intn(3) - 1, Next: r.Intn(4) - 1}
	case 1:
		return api.Seat{}
	case 2, 3, 4:
		return live(1+r.Intn(1<<32-1), 1+r.Intn(3072))
	}
	return free(1+r.Intn(1<<32-1), r.Intn(1794))
}

func TestModel(t *testing.T) { // P9.1 to P9.3
	r := rand.New(rand.NewSource(9))
	for range 20000 {
		var l api.Leaf
		for i := range l.Seats {
			l.Seats[i] = drawnSeat(r)
		}
		var f api.Fan
		for i := range f.Kids {
			f.Kids[i] = r.Intn(2) * (2 + r.Intn(3071))
		}
		heldLeaf(t, l)
		heldFan(t, f)
		held(t, laidLeaf(l))
		held(t, laidFan(f))
		held(t, blockOf(2+r.Intn(2), r.Intn(256), leafBody(l)))
		held(t, blockOf(2+r.Intn(2), r.Intn(2), fanBody(f)))
		body := leafBody(l)
		body[r.Intn(56)] ^= byte(1 << r.Intn(8))
		held(t, blockOf(2, tagOf(l), body))
		body = fanBody(f)
		body[r.Intn(56)] ^= byte(1 << r.Intn(8))
		held(t, blockOf(3, 0, body))
	}
}

func FuzzPage(f *testing.F) { // P9.1 to P9.3
	f.Add(1, 0, 0, true, 1, 2, []byte{})
	f.Add(2, 128, 6, true, 1<<32-1, 3071, []byte{1, 0, 0, 0, 2, 0, 0, 0})
	f.Add(3, 0, 3, false, 0, 1792, make([]byte, 56))
	f.Fuzz(func(t *testing.T, kind, tag, at int, isLive bool, gen, next int, rest []byte) {
		l, _ := toldLeaf(rest)
		l.Seats[uint(at)%7] = api.Seat{Live: isLive, Gen: gen, Next: next}
		heldLeaf(t, l)
		fan, _ := toldFan(rest)
		heldFan(t, fanWith(fan, int(uint(at)%16), next))
		held(t, rest)
		held(t, blockOf(kind, tag, rest))
		held(t, blockOf(2, tag, rest))
		held(t, blockOf(3, 0, rest))
	})
}
