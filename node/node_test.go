package node_test

import (
	"bytes"
	"encoding/binary"
	"encoding/hex"
	"hash/crc32"
	"math"
	"math/rand"
	"slices"
	"testing"

	"rickyard/api"
	"rickyard/node"
)

// of is a node of these numbers.
func of(key, value, slot, gen int, kids ...int) api.Node {
	return api.Node{Entry: entry(key, value, slot, gen), Kids: kids}
}

// entry is one of these numbers.
func entry(key, value, slot, gen int) api.Entry {
	return api.Entry{Handle: api.Handle{Slot: slot, Gen: gen}, Key: key, Value: value}
}

// blockOf are 64 octets of any kind and tag, with the right sum: known of another program's tables.
func blockOf(kind, tag int, body []byte) []byte {
	rest := make([]byte, 60)
	rest[0], rest[1] = byte(kind), byte(tag)
	copy(rest[4:], body)
	sum := crc32.Checksum(rest, crc32.MakeTable(crc32.Castagnoli))
	return append(binary.LittleEndian.AppendUint32(nil, sum), rest...)
}

// bodyOf is a body by the document's own words, without the noughts, whatever the numbers are.
func bodyOf(n api.Node) []byte {
	b := binary.LittleEndian.AppendUint64(nil, uint64(n.Entry.Key))
	b = binary.LittleEndian.AppendUint64(b, uint64(n.Entry.Value))
	b = binary.LittleEndian.AppendUint32(b, uint32(n.Entry.Handle.Slot))
	b = binary.LittleEndian.AppendUint32(b, uint32(n.Entry.Handle.Gen))
	for _, kid := range n.Kids {
		b = binary.LittleEndian.AppendUint16(b, uint16(kid))
	}
	return b
}

// laid is a node's block by the document's own words, with the right sum, whatever the numbers are.
func laid(n api.Node) []byte {
	return blockOf(1, len(n.Kids), bodyOf(n))
}

// isRight is the document's own words for a right node.
func isRight(n api.Node) bool {
	h := n.Entry.Handle
	return h.Slot >= 0 && h.Slot <= 1791 && h.Gen >= 1 && h.Gen <= 4294967295 && len(n.Kids) <= 12 &&
		!slices.ContainsFunc(n.Kids, func(kid int) bool { return kid < 2 || kid > 3071 })
}

// alike tells whether two nodes have the same numbers.
func alike(a, b api.Node) bool {
	return a.Entry.Handle.Slot == b.Entry.Handle.Slot && a.Entry.Handle.Gen == b.Entry.Handle.Gen &&
		a.Entry.Key == b.Entry.Key && a.Entry.Value == b.Entry.Value && slices.Equal(a.Kids, b.Kids)
}

// many are n Kids, all of them the same.
func many(n, kid int) []int {
	return slices.Repeat([]int{kid}, n)
}

// numbers are keys and values: the edges, and some whose octets are unlike.
func numbers() []int {
	return []int{0, 1, -1, 2, -2, 255, 256, -256, 1 << 31, 1<<32 - 1, 1 << 32, -1 << 32, 0x0102030405060708, -0x0102030405060708,
		math.MaxInt, math.MaxInt - 1, math.MinInt, math.MinInt + 1}
}

// rights are right nodes, no two of them alike.
func rights() []api.Node {
	var out []api.Node
	for i, v := range numbers() {
		out = append(out, of(v, 7, 1, 1), of(7, v, 1, 2), of(v, v, 3, 3, 2+i))
	}
	for _, slot := range []int{0, 1, 255, 256, 258, 1790, 1791} {
		for _, gen := range []int{1, 2, 255, 256, 1 << 16, 1<<31 - 1, 1 << 31, 1<<32 - 2, 1<<32 - 1} {
			out = append(out, of(5, 6, slot, gen), of(-5, -6, slot, gen, 2, 3071))
		}
	}
	for n := range 13 {
		out = append(out, of(8, 9, 10, 11, many(n, 2)...))
		if n > 0 {
			out = append(out, of(8, 9, 10, 11, many(n, 3071)...), of(8, 9, 10, 11, append(many(n-1, 300), 301)...), of(8, 9, 10, 11, append([]int{302}, many(n-1, 300)...)...))
		}
	}
	for i := 1; i < 13; i++ {
		var kids []int
		for kid := range i {
			kids = append(kids, 256*kid+i+3)
		}
		out = append(out, of(8, 9, 10, 11, kids...))
	}
	return append(out, of(8, 9, 10, 11, 20, 21), of(8, 9, 10, 11, 21, 20))
}

// wrongs are nodes that aren't right, each of them by one number alone at first.
func wrongs() []api.Node {
	out := []api.Node{{}}
	for _, slot := range []int{-1, -2, 1792, 1793, 3071, 1 << 32, 1<<32 + 1, -1 << 32, 1 - 1<<32, math.MaxInt, math.MinInt} {
		out = append(out, of(1, 2, slot, 1), of(1, 2, slot, 1, 2, 3))
	}
	for _, gen := range []int{0, -1, -2, 1 << 32, 1<<32 + 1, 1<<33 + 1, -1 << 32, 1 - 1<<32, math.MaxInt, math.MinInt, math.MinInt + 1} {
		out = append(out, of(1, 2, 0, gen), of(1, 2, 1791, gen, 2, 3))
	}
	for _, kid := range []int{0, 1, -1, -2, 3072, 3073, 1<<16 - 1, 1 << 16, 1<<16 + 2, -1<<16 + 2, 1<<32 + 2, math.MaxInt, math.MinInt, math.MinInt + 2} {
		for n := range 12 {
			out = append(out, of(1, 2, 3, 4, append(many(n, 5), kid)...), of(1, 2, 3, 4, append([]int{kid}, many(n, 5)...)...))
		}
		out = append(out, of(1, 2, 3, 4, 5, kid, 6))
	}
	for _, n := range []int{13, 14, 16, 17, 28, 29, 255, 256, 257, 268, 100000} {
		out = append(out, of(1, 2, 3, 4, many(n, 2)...), of(1, 2, 3, 4, make([]int, n)...))
	}
	return append(out, of(0, 0, -1, 0), of(0, 0, 1792, 1<<32, many(13, 1)...))
}

// none fails if octets are told as a node.
func none(t *testing.T, why string, b []byte) {
	t.Helper()
	if n, ok := node.Get(b); ok || n.Entry != (api.Entry{}) || len(n.Kids) != 0 {
		t.Errorf("%s: %x: %v, %v", why, b, n, ok)
	}
}

// got fails if octets aren't told as that node.
func got(t *testing.T, b []byte, want api.Node) {
	t.Helper()
	if n, ok := node.Get(b); !ok || !alike(n, want) {
		t.Errorf("%x: %v, %v, not %v", b, n, ok, want)
	}
}

func TestRight(t *testing.T) { // P8.1
	for _, n := range rights() {
		if !node.Right(n) {
			t.Errorf("%v isn't right", n)
		}
	}
	for _, n := range wrongs() {
		if node.Right(n) {
			t.Errorf("%v is right", n)
		}
	}
}

func TestRightOfEachNumber(t *testing.T) { // P8.1
	for v := -5; v < 5000; v++ {
		if right := node.Right(of(0, 0, v, 1)); right != (v >= 0 && v <= 1791) {
			t.Errorf("slot %d: %v", v, right)
		}
		if right := node.Right(of(0, 0, 0, v)); right != (v >= 1) {
			t.Errorf("Gen %d: %v", v, right)
		}
		if right := node.Right(of(0, 0, 0, 1<<32-2500+v)); right != (v < 2500) {
			t.Errorf("Gen %d: %v", 1<<32-2500+v, right)
		}
		if right := node.Right(of(0, 0, 0, 1, 9, v)); right != (v >= 2 && v <= 3071) {
			t.Errorf("kid %d: %v", v, right)
		}
	}
	for n := range 300 {
		if right := node.Right(of(0, 0, 0, 1, many(n, 2)...)); right != (n <= 12) {
			t.Errorf("%d kids: %v", n, right)
		}
	}
}

func TestPut(t *testing.T) { // P8.1
	for _, n := range rights() {
		if b, ok := node.Put(n); !ok || !bytes.Equal(b, laid(n)) {
			t.Errorf("%v: %x, %v, not %x", n, b, ok, laid(n))
		}
	}
}

func TestPutOctetByOctet(t *testing.T) { // P8.1: blocks written out, the sum too
	for _, c := range []struct {
		n    api.Node
		want string
	}{
		{of(-2, 0x0102030405060708, 258, 4294967295, 2, 3071), "dc6e2f6e" + "01020000" + "feffffffffffffff" + "0807060504030201" + "02010000" + "ffffffff" + "0200ff0b" +
			"0000000000000000000000000000000000000000" + "0000000000000000"},
		{of(0, 0, 0, 1), "d61a7c1c" + "01000000" + "0000000000000000" + "0000000000000000" + "00000000" + "01000000" +
			"000000000000000000000000000000000000000000000000" + "0000000000000000"},
	} {
		b, ok := node.Put(c.n)
		if !ok || hex.EncodeToString(b) != c.want {
			t.Errorf("%v: %x, %v, not %s", c.n, b, ok, c.want)
		}
		got(t, b, c.n)
	}
}

func TestPutWithoutKids(t *testing.T) { // P8.1: the chapter's example; none and nil are one
	for _, kids := range [][]int{nil, {}, make([]int, 0, 12)} {
		b, ok := node.Put(of(-1, -1, 1791, 1<<32-1, kids...))
		if !ok || len(b) != 64 || !bytes.Equal(b[32:], make([]byte, 32)) || b[31] != 255 || b[5] != 0 {
			t.Errorf("%x, %v", b, ok)
		}
		got(t, b, of(-1, -1, 1791, 1<<32-1))
	}
}

func TestPutNone(t *testing.T) { // P8.1
	for _, n := range wrongs() {
		if b, ok := node.Put(n); ok || len(b) != 0 {
			t.Errorf("%v: %x, %v", n, b, ok)
		}
	}
}

func TestGet(t *testing.T) { // P8.1: octets that the test laid, not Put
	for _, n := range rights() {
		got(t, laid(n), n)
	}
}

func TestGetNoBlock(t *testing.T) { // P8.1
	whole := laid(of(1, 2, 3, 4, 5, 6))
	long := bytes.Repeat(whole, 2)
	none(t, "nil", nil)
	none(t, "64 noughts", make([]byte, 64))
	none(t, "64 octets of 255", bytes.Repeat([]byte{255}, 64))
	for n := range long {
		if n != 64 {
			none(t, "the first ones alone", long[:n])
		}
	}
	none(t, "two blocks", long)
	none(t, "ahead of it", append([]byte{0}, whole...))
	none(t, "spare room that would fill it", whole[:63:64])
	none(t, "a body alone", whole[8:])
	for at := range whole {
		for by := 1; by < 256; by++ {
			b := bytes.Clone(whole)
			b[at] ^= byte(by)
			none(t, "an octet turned", b)
		}
	}
	for _, at := range []int{6, 7} { // the sum is right, but these two are noughts in a block
		rest := bytes.Clone(whole[4:])
		rest[at-4] = 1
		sum := crc32.Checksum(rest, crc32.MakeTable(crc32.Castagnoli))
		none(t, "no nought", append(binary.LittleEndian.AppendUint32(nil, sum), rest...))
	}
}

func TestGetOtherKinds(t *testing.T) { // P8.1
	for _, n := range []api.Node{of(0, 0, 0, 1), of(1, 2, 3, 4, 5, 6), of(1, 2, 1791, 4, many(12, 2)...)} {
		for kind := range 256 {
			b := blockOf(kind, len(n.Kids), bodyOf(n))
			if kind == 1 {
				got(t, b, n)
			} else {
				none(t, "another kind", b)
			}
		}
	}
}

func TestGetTags(t *testing.T) { // P8.1: a tag that tells fewer or more Kids than are there, or above 12
	for there := range 17 { // as many as a body has room for
		n := of(-1, -1, 1791, 1<<32-1, many(there, 2)...)
		for tag := range 256 {
			b := blockOf(1, tag, bodyOf(n))
			if tag == there && tag <= 12 {
				got(t, b, n)
			} else {
				none(t, "another tag", b)
			}
		}
	}
}

func TestGetBehindTheKids(t *testing.T) { // P8.1
	for kids := range 13 {
		body := append(bodyOf(of(1, 2, 3, 4, many(kids, 3071)...)), make([]byte, 56)...)[:56]
		for at := 24 + 2*kids; at < 56; at++ {
			for _, by := range []byte{1, 2, 128, 255} {
				b := bytes.Clone(body)
				b[at] = by
				none(t, "no nought behind the Kids", blockOf(1, kids, b))
			}
		}
		got(t, blockOf(1, kids, body), of(1, 2, 3, 4, many(kids, 3071)...))
	}
}

// edged fails if a block's node isn't told just if it is right; its numbers fit into their octets.
func edged(t *testing.T, n api.Node) {
	t.Helper()
	if isRight(n) {
		got(t, laid(n), n)
	} else {
		none(t, "no right node", laid(n))
	}
}

func TestGetNotRight(t *testing.T) { // P8.1: a Slot, a Gen or a Kid that is none of a right node
	for _, slot := range []int{0, 1791, 1792, 1793, 2047, 2048, 1 << 16, 1<<16 + 1, 1 << 31, 1<<32 - 1} {
		edged(t, of(1, 2, slot, 1))
		edged(t, of(1, 2, slot, 1, many(12, 9)...))
	}
	for _, gen := range []int{0, 1, 1 << 31, 1<<32 - 1} {
		edged(t, of(1, 2, 3, gen))
		edged(t, of(1, 2, 3, gen, many(12, 9)...))
	}
	for kid := range 1 << 16 {
		edged(t, of(1, 2, 3, 4, kid))
		edged(t, of(1, 2, 3, 4, 9, kid, 10))
	}
	for _, kid := range []int{0, 1, 2, 3071, 3072, 1<<16 - 1} {
		for at := range 12 {
			kids := many(12, 9)
			kids[at] = kid
			edged(t, of(1, 2, 3, 4, kids...))
		}
	}
}

// inOrder are entries, each behind those ahead of it.
func inOrder() []api.Entry {
	var out []api.Entry
	for _, key := range []int{math.MinInt, math.MinInt + 1, -1 << 32, -2, -1, 0, 1, 2, 1 << 32, math.MaxInt - 1, math.MaxInt} {
		for _, slot := range []int{math.MinInt, -1, 0, 1, 1791, 1792, math.MaxInt} {
			for _, gen := range []int{math.MinInt, -1, 0, 1, 2, 1<<32 - 1, 1 << 32, math.MaxInt} {
				out = append(out, entry(key, key^slot, slot, gen))
			}
		}
	}
	return out
}

func TestCompare(t *testing.T) { // P8.2: any numbers
	es := inOrder()
	for i, a := range es {
		for j, b := range es {
			want := 0
			switch {
			case i < j:
				want = -1
			case i > j:
				want = 1
			}
			if c := node.Compare(a, b); c != want {
				t.Fatalf("%v, %v: %d", a, b, c)
			}
		}
	}
}

func TestCompareOneNumberAlone(t *testing.T) { // P8.2
	a := entry(5, 6, 7, 8)
	for _, c := range []struct {
		b    api.Entry
		want int
	}{
		{a, 0},
		{entry(6, 6, 7, 8), -1},
		{entry(4, 6, 7, 8), 1},
		{entry(5, 6, 8, 8), -1},
		{entry(5, 6, 6, 8), 1},
		{entry(5, 6, 7, 9), -1},
		{entry(5, 6, 7, 7), 1},
		{entry(5, 5, 7, 8), 0},
		{entry(5, math.MaxInt, 7, 8), 0},
		{entry(5, math.MinInt, 7, 8), 0},
		{entry(6, 0, 0, 1), -1},          // the Key counts ahead of the Slot and the Gen
		{entry(4, 9, 1791, 9), 1},        // and so below it
		{entry(5, 0, 8, 1), -1},          // the Slot ahead of the Gen
		{entry(5, 9, 6, 4294967295), 1},  // and so below it
		{entry(math.MinInt, 0, 0, 1), 1}, // a difference would wrap round
		{entry(math.MaxInt, 0, 0, 1), -1},
		{entry(5, 6, math.MinInt, 8), 1},
		{entry(5, 6, 7, math.MinInt), 1},
		{api.Entry{}, 1},
		{entry(-1, 6, 7, 8), 1}, // a Key below 0 isn't a great one
		{entry(5, 6, 7, math.MaxInt), -1},
		{entry(5, 6, math.MaxInt, -1), -1},
		{entry(5, math.MinInt, 7, 9), -1}, // the Value doesn't count there either
		{entry(5, math.MaxInt, 7, 7), 1},
		{entry(5, math.MinInt, 8, 8), -1},
		{entry(6, math.MinInt, 7, 8), -1},
		{entry(4, math.MaxInt, 7, 8), 1},
		{entry(5, math.MaxInt, 6, 8), 1},
		{entry(5, -6, 7, 8), 0},
		{entry(5, 0, 7, 8), 0},
		{entry(5, 6, 7, 1<<32+8), -1}, // no number is cut
		{entry(5, 6, 1<<32+7, 8), -1},
		{entry(5+1<<32, 6, 7, 8), -1},
		{entry(5-1<<32, 6, 7, 8), 1},
		{entry(5, 6, 7-1<<32, 8), 1},
		{entry(5, 6, 7, 8-1<<32), 1},
		{entry(5, 6, -7, 8), 1},
		{entry(5, 6, 7, -8), 1},
		{entry(-5, 6, 7, 8), 1},
		{entry(math.MaxInt-1, 6, 7, 8), -1},
	} {
		if got := node.Compare(a, c.b); got != c.want {
			t.Errorf("%v, %v: %d", a, c.b, got)
		}
		if got := node.Compare(c.b, a); got != -c.want {
			t.Errorf("%v, %v: %d", c.b, a, got)
		}
	}
	if c := node.Compare(api.Entry{}, api.Entry{}); c != 0 {
		t.Errorf("zero entries: %d", c)
	}
}

func TestSame(t *testing.T) { // P8.2: right nodes and others
	ns := append(rights(), wrongs()...)
	for _, a := range ns {
		for _, b := range ns {
			if same := node.Same(a, b); same != alike(a, b) {
				t.Fatalf("%v, %v: %v", a, b, same)
			}
		}
		if b := (api.Node{Entry: a.Entry, Kids: slices.Clone(a.Kids)}); !node.Same(a, b) {
			t.Errorf("%v: not the same as its copy", a)
		}
	}
}

func TestSameOneNumberAlone(t *testing.T) { // P8.2
	a := of(1, 2, 3, 4, 5, 6)
	for _, b := range []api.Node{
		of(0, 2, 3, 4, 5, 6),
		of(1, 0, 3, 4, 5, 6), // the Value counts here
		of(1, 2, 0, 4, 5, 6),
		of(1, 2, 3, 0, 5, 6),
		of(1, 2, 3, 4, 0, 6),
		of(1, 2, 3, 4, 5, 0),
		of(1, 2, 3, 4, 6, 5),
		of(1, 2, 3, 4, 5),
		of(1, 2, 3, 4, 6),
		of(1, 2, 3, 4),
		of(1, 2, 3, 4, 5, 6, 6),
		of(1, 2, 3, 4, 5, 6, 0),
		of(1, 2, 3, 4, 0, 5, 6),
		{Kids: a.Kids},
		{},
	} {
		if node.Same(a, b) || node.Same(b, a) {
			t.Errorf("%v and %v are the same", a, b)
		}
	}
	room := append(make([]int, 0, 12), 5, 6)
	if !node.Same(a, of(1, 2, 3, 4, room...)) || !node.Same(a, a) {
		t.Error("not the same as itself")
	}
	if !node.Same(api.Node{}, api.Node{Kids: []int{}}) || !node.Same(api.Node{Kids: make([]int, 0, 3)}, api.Node{}) || !node.Same(api.Node{}, api.Node{}) {
		t.Error("no Kids and nil ones aren't the same")
	}
	if node.Same(of(1, 2, 3, 4), of(1, 2, 3, 4, 0)) {
		t.Error("a Kid of 0 is one")
	}
}

func TestThereAndBack(t *testing.T) { // P8.3
	for _, n := range rights() {
		b, ok := node.Put(n)
		if !ok {
			t.Fatalf("%v: none", n)
		}
		got(t, b, n)
		m, _ := node.Get(b)
		if !node.Right(m) || !node.Same(m, n) || !node.Same(n, m) || node.Compare(m.Entry, n.Entry) != 0 {
			t.Errorf("%v: %v", n, m)
		}
		if again, ok := node.Put(m); !ok || !bytes.Equal(again, b) {
			t.Errorf("%v: again %x, %v, not %x", n, again, ok, b)
		}
	}
}

func TestUnlikeBlocks(t *testing.T) { // P8.3
	all := map[string]api.Node{}
	for _, n := range rights() {
		b, ok := node.Put(n)
		if m, there := all[string(b)]; !ok || there {
			t.Errorf("%v, %v: %x, %v", n, m, b, ok)
		}
		all[string(b)] = n
	}
}

// octetsWithRoom is octets with room on both sides, all of it marked, and a copy of all.
func octetsWithRoom(b []byte) (inner, room, was []byte) {
	room = append(bytes.Repeat([]byte{170}, 8), b...)
	room = append(room, bytes.Repeat([]byte{170}, 100)...)
	return room[8 : 8+len(b)], room, bytes.Clone(room)
}

// kidsWithRoom is the same of Kids.
func kidsWithRoom(kids []int) (inner, room, was []int) {
	room = append(many(3, 1234), kids...)
	room = append(room, many(20, 1234)...)
	return room[3 : 3+len(kids)], room, slices.Clone(room)
}

func TestHandedInStays(t *testing.T) { // P8.3
	for _, n := range append(rights(), wrongs()...) {
		inner, room, was := kidsWithRoom(n.Kids)
		n.Kids = inner
		other := of(1, 2, 3, 4, 5)
		node.Right(n)
		node.Put(n)
		node.Same(n, n)
		node.Same(n, other)
		node.Same(other, n)
		if !slices.Equal(room, was) {
			t.Errorf("%v: changed to %v", was, room)
		}
	}
	whole := laid(of(1, 2, 3, 4, many(12, 2)...))
	for _, b := range [][]byte{nil, whole, laid(of(0, 0, 0, 1)), laid(of(1, 2, 1792, 4, 5)), laid(of(1, 2, 3, 4, 1)), blockOf(2, 2, whole[8:]),
		blockOf(1, 13, whole[8:]), blockOf(1, 11, whole[8:]), whole[:63], make([]byte, 64), make([]byte, 65)} {
		inner, room, was := octetsWithRoom(b)
		node.Get(inner)
		if !bytes.Equal(room, was) {
			t.Errorf("%x: changed to %x", was, room)
		}
	}
}

// spoil fills a list and its spare room.
func spoil[T byte | int](list []T) {
	list = list[:cap(list)]
	for i := range list {
		list[i] = 85
	}
}

func TestPutIsNew(t *testing.T) { // P8.3: changed neither with what was handed in nor with another answer
	for _, n := range rights() {
		want := laid(n)
		inner, room, was := kidsWithRoom(n.Kids)
		handed := api.Node{Entry: n.Entry, Kids: inner}
		first, _ := node.Put(handed)
		second, _ := node.Put(handed)
		spoil(second)
		if !slices.Equal(room, was) || !bytes.Equal(first, want) {
			t.Errorf("%v: shared with an answer", n)
		}
		spoil(room)
		if !bytes.Equal(first, want) {
			t.Errorf("%v: the Kids were kept", n)
		}
		if third, _ := node.Put(n); !bytes.Equal(third, want) {
			t.Errorf("%v: changed by a caller: %x", n, third)
		}
	}
}

func TestGetIsNew(t *testing.T) { // P8.3
	for _, n := range rights() {
		inner, room, was := octetsWithRoom(laid(n))
		first, _ := node.Get(inner)
		second, _ := node.Get(inner)
		spoil(second.Kids)
		if !bytes.Equal(room, was) || !alike(first, n) {
			t.Errorf("%v: shared with an answer: %v", n, first)
		}
		spoil(room)
		if !alike(first, n) {
			t.Errorf("%v: the octets were kept: %v", n, first)
		}
		none(t, "spoilt", inner)
		got(t, laid(n), n)
	}
}

// told is what the document's own words make of octets: the right node whose block they are.
func told(b []byte) (api.Node, bool) {
	if len(b) != 64 || b[5] > 12 {
		return api.Node{}, false
	}
	n := of(int(binary.LittleEndian.Uint64(b[8:])), int(binary.LittleEndian.Uint64(b[16:])), int(binary.LittleEndian.Uint32(b[24:])), int(binary.LittleEndian.Uint32(b[28:])))
	for i := range int(b[5]) {
		n.Kids = append(n.Kids, int(binary.LittleEndian.Uint16(b[32+2*i:])))
	}
	if !isRight(n) || !bytes.Equal(b, laid(n)) {
		return api.Node{}, false
	}
	return n, true
}

// held fails if octets aren't told as the document's own words tell them.
func held(t *testing.T, b []byte) {
	t.Helper()
	if n, ok := told(b); ok {
		got(t, b, n)
	} else {
		none(t, "by its words", b)
	}
}

// ahead is the document's own words for the order.
func ahead(a, b api.Entry) bool {
	if a.Key != b.Key {
		return a.Key < b.Key
	}
	if a.Handle.Slot != b.Handle.Slot {
		return a.Handle.Slot < b.Handle.Slot
	}
	return a.Handle.Gen < b.Handle.Gen
}

// order is the document's own words for Compare.
func order(a, b api.Entry) int {
	switch {
	case ahead(a, b):
		return -1
	case ahead(b, a):
		return 1
	}
	return 0
}

// drawn is a node that is often right.
func drawn(r *rand.Rand) api.Node {
	n := of(r.Intn(3)-1, int(r.Uint64()), r.Intn(1800)-2, r.Intn(5), make([]int, r.Intn(14))...)
	if r.Intn(2) == 0 {
		n.Entry.Key, n.Entry.Handle.Gen = int(r.Uint64()), 1<<32-3+r.Intn(4)
	}
	for i := range n.Kids {
		n.Kids[i] = 1 + r.Intn(3072)
	}
	return n
}

func TestModel(t *testing.T) { // P8.1 to P8.3
	r := rand.New(rand.NewSource(14))
	last := api.Node{}
	for range 20000 {
		n := drawn(r)
		right := isRight(n)
		b, ok := node.Put(n)
		if node.Right(n) != right || ok != right || !ok && len(b) != 0 || ok && !bytes.Equal(b, laid(n)) {
			t.Fatalf("%v: %x, %v", n, b, ok)
		}
		held(t, b)
		body := append(bodyOf(n), make([]byte, 56)...)[:56]
		held(t, blockOf(1, len(n.Kids), body))
		held(t, blockOf(1+r.Intn(2), r.Intn(14), body))
		body[r.Intn(56)] ^= byte(1 << r.Intn(8))
		held(t, blockOf(1, len(n.Kids), body))
		if c := node.Compare(n.Entry, last.Entry); c != order(n.Entry, last.Entry) {
			t.Fatalf("%v, %v: %d", n.Entry, last.Entry, c)
		}
		last = n
	}
}

func FuzzNode(f *testing.F) { // P8.1 to P8.3
	f.Add(0, 0, 0, 1, 0, []byte{})
	f.Add(-1, 1, 258, 1<<32-1, 2, []byte{2, 0, 255, 11})
	f.Add(math.MinInt, math.MaxInt, 1792, 1<<32, 13, make([]byte, 26))
	f.Fuzz(func(t *testing.T, key, value, slot, gen, tag int, rest []byte) {
		n := of(key, value, slot, gen)
		for i := 0; i+1 < len(rest); i += 2 {
			n.Kids = append(n.Kids, int(int16(binary.LittleEndian.Uint16(rest[i:]))))
		}
		b, ok := node.Put(n)
		if right := isRight(n); ok != right || node.Right(n) != right || ok && !bytes.Equal(b, laid(n)) {
			t.Fatalf("%v: %x, %v", n, b, ok)
		}
		held(t, b)
		held(t, rest)
		held(t, blockOf(1, tag, append(bodyOf(of(key, value, slot, gen)), rest...)))
	})
}
