package cell_test

import (
	"bytes"
	"encoding/binary"
	"encoding/hex"
	"fmt"
	"hash/crc32"
	"math"
	"math/rand"
	"slices"
	"strings"
	"testing"
	"unicode/utf8"

	"rickyard/api"
	"rickyard/block"
	"rickyard/cell"
	"rickyard/chart"
	"rickyard/label"
	"rickyard/node"
	"rickyard/page"
	"rickyard/super"
)

// known is a cell, and what is to be told of it.
type known struct {
	b    []byte
	kind int
	text string
	kids []int
}

// blockOf are 64 octets of any kind and tag, with the right sum: known of another program's tables.
func blockOf(kind, tag int, body []byte) []byte {
	rest := make([]byte, 60)
	rest[0], rest[1] = byte(kind), byte(tag)
	copy(rest[4:], body)
	sum := crc32.Checksum(rest, crc32.MakeTable(crc32.Castagnoli))
	return append(binary.LittleEndian.AppendUint32(nil, sum), rest...)
}

// summed are a block's 64 octets with the right sum, whatever was changed behind it.
func summed(b []byte) []byte {
	sum := crc32.Checksum(b[4:], crc32.MakeTable(crc32.Castagnoli))
	return append(binary.LittleEndian.AppendUint32(nil, sum), b[4:]...)
}

// long are numbers in eight octets each, middle ones in four, short ones in two.
func long(ns ...int) []byte {
	var b []byte
	for _, n := range ns {
		b = binary.LittleEndian.AppendUint64(b, uint64(n))
	}
	return b
}

func middle(ns ...int) []byte {
	var b []byte
	for _, n := range ns {
		b = binary.LittleEndian.AppendUint32(b, uint32(n))
	}
	return b
}

func short(ns ...int) []byte {
	var b []byte
	for _, n := range ns {
		b = binary.LittleEndian.AppendUint16(b, uint16(n))
	}
	return b
}

// nodeOf is a node's block by the document's own words, whatever the numbers are.
func nodeOf(slot, gen, key, value int, kids ...int) []byte {
	return blockOf(1, len(kids), slices.Concat(long(key, value), middle(slot, gen), short(kids...)))
}

// seat is one of a leaf.
type seat struct {
	live      int // 1: it is Live
	gen, next int
}

// leafOf is a leaf's block; the seats that aren't named were never issued.
func leafOf(seats ...seat) []byte {
	tag := 0
	var body []byte
	for i, x := range seats {
		tag += x.live << i
		body = append(body, middle(x.gen, x.next)...)
	}
	return blockOf(2, tag, body)
}

// fanOf is a fan's block; of the kids that aren't named there is none.
func fanOf(kids ...int) []byte { return blockOf(3, 0, short(kids...)) }

// chartOf is a chart's block.
func chartOf(place int, bits ...byte) []byte { return blockOf(4, place, bits) }

// queueOf is a queue's block; its roots stand at the places of the Count's bits, in order.
func queueOf(name string, count int, roots ...int) []byte {
	all := make([]int, 12)
	for i := range all {
		if count/pow(i)%2 == 1 {
			all[i], roots = roots[0], roots[1:]
		}
	}
	return blockOf(5, len(name), slices.Concat(middle(count), short(all...), []byte(name)))
}

// pow is 2^i.
func pow(i int) int { return int(math.Pow(2, float64(i))) }

// dirOf is a directory's block.
func dirOf(queues ...int) []byte { return blockOf(6, len(queues), short(queues...)) }

// superOf is a superblock's block: with the epoch, blocks, slots, gens, high, free, top and dir.
func superOf(first [8]int, charts ...int) []byte {
	return blockOf(7, len(charts), slices.Concat(long(first[0]), middle(first[1:6]...), short(first[6:]...), short(charts...)))
}

// rising are n numbers from first on.
func rising(first, n int) []int {
	var out []int
	for i := range n {
		out = append(out, first+i)
	}
	return out
}

// words are a word, and the numbers' texts.
func words(word string, ns ...int) string {
	for _, n := range ns {
		word += fmt.Sprintf(" %d", n)
	}
	return word
}

func nodes() []known {
	const least, most = "-9223372036854775808", "9223372036854775807"
	return []known{
		{nodeOf(0, 1, 0, 0), 1, "node 0.1 0 0", nil},
		{nodeOf(3, 1, -5, 6, 7), 1, "node 3.1 -5 6 7", []int{7}},
		{nodeOf(3, 1, 5, -6, 7, 8, 7), 1, "node 3.1 5 -6 7 8 7", []int{7, 8, 7}},
		{nodeOf(1791, 4294967295, math.MinInt, math.MaxInt, 2), 1, "node 1791.4294967295 " + least + " " + most + " 2", []int{2}},
		{nodeOf(258, 65536, math.MaxInt, math.MinInt, 3071, 2), 1, "node 258.65536 " + most + " " + least + " 3071 2", []int{3071, 2}},
		{nodeOf(9, 9, -1, -1, 9, 9, 9), 1, "node 9.9 -1 -1 9 9 9", []int{9, 9, 9}},
		{nodeOf(12, 13, 14, 15, rising(258, 12)...), 1, words("node 12.13 14 15", rising(258, 12)...), rising(258, 12)},
		{nodeOf(5, 6, 7, 8, slices.Repeat([]int{3071}, 12)...), 1, words("node 5.6 7 8", slices.Repeat([]int{3071}, 12)...), slices.Repeat([]int{3071}, 12)},
	}
}

func leaves() []known {
	return []known{
		{leafOf(), 2, "leaf 0-0 0-0 0-0 0-0 0-0 0-0 0-0", nil},
		{leafOf(seat{}, seat{1, 3, 9}), 2, "leaf 0-0 3+9 0-0 0-0 0-0 0-0 0-0", []int{9}},
		{leafOf(seat{0, 1, 0}, seat{0, 2, 9}, seat{0, 4294967295, 1792}, seat{0, 1, 1}), 2, "leaf 1-0 2-9 4294967295-1792 1-1 0-0 0-0 0-0", nil},
		{leafOf(seat{1, 1, 9}, seat{0, 2, 9}, seat{0, 3, 0}, seat{1, 4294967295, 3071}, seat{}, seat{0, 5, 2}, seat{1, 6, 9}), 2, "leaf 1+9 2-9 3-0 4294967295+3071 0-0 5-2 6+9", []int{9, 3071, 9}},
		{leafOf(seat{1, 1, 2}, seat{1, 2, 3}, seat{1, 3, 258}, seat{1, 4, 1792}, seat{1, 5, 1793}, seat{1, 6, 3070}, seat{1, 7, 3071}), 2, "leaf 1+2 2+3 3+258 4+1792 5+1793 6+3070 7+3071", []int{2, 3, 258, 1792, 1793, 3070, 3071}},
		{leafOf(slices.Repeat([]seat{{1, 8, 5}}, 7)...), 2, "leaf 8+5 8+5 8+5 8+5 8+5 8+5 8+5", []int{5, 5, 5, 5, 5, 5, 5}},
		{leafOf(seat{}, seat{}, seat{}, seat{}, seat{}, seat{}, seat{1, 1, 7}), 2, "leaf 0-0 0-0 0-0 0-0 0-0 0-0 1+7", []int{7}},
	}
}

func fans() []known {
	all := make([]int, 16)
	return []known{
		{fanOf(), 3, words("fan", all...), nil},
		{fanOf(0, 5), 3, "fan 0 5 0 0 0 0 0 0 0 0 0 0 0 0 0 0", []int{5}},
		{fanOf(2, 0, 0, 3071, 7, 0, 2, 0, 0, 0, 0, 0, 0, 0, 0, 258), 3, "fan 2 0 0 3071 7 0 2 0 0 0 0 0 0 0 0 258", []int{2, 3071, 7, 2, 258}},
		{fanOf(rising(1001, 16)...), 3, words("fan", rising(1001, 16)...), rising(1001, 16)},
		{fanOf(slices.Repeat([]int{9}, 16)...), 3, words("fan", slices.Repeat([]int{9}, 16)...), slices.Repeat([]int{9}, 16)},
	}
}

func charts() []known {
	return []known{
		{chartOf(0), 4, "chart 0 0", nil},
		{chartOf(1, 1), 4, "chart 1 1", nil},
		{chartOf(5, 3, 0, 255, 128), 4, "chart 5 11", nil},
		{chartOf(0, bytes.Repeat([]byte{170}, 48)...), 4, "chart 0 192", nil},
		{chartOf(7, bytes.Repeat([]byte{255}, 48)...), 4, "chart 7 384", nil},
		{chartOf(7, append(make([]byte, 47), 128)...), 4, "chart 7 1", nil},
	}
}

func queues() []known {
	return []known{
		{queueOf("a", 0), 5, "queue a 0 0 0 0 0 0 0 0 0 0 0 0 0", nil},
		{queueOf("ß", 5, 7, 9), 5, "queue ß 5 7 0 9 0 0 0 0 0 0 0 0 0", []int{7, 9}},
		{queueOf("日本語日本語日本", 4095, rising(3060, 12)...), 5, words("queue 日本語日本語日本 4095", rising(3060, 12)...), rising(3060, 12)},
		{queueOf("--------", 4095, slices.Repeat([]int{2}, 12)...), 5, words("queue -------- 4095", slices.Repeat([]int{2}, 12)...), slices.Repeat([]int{2}, 12)},
		{queueOf("Z_9", 2048, 258), 5, "queue Z_9 2048 0 0 0 0 0 0 0 0 0 0 0 258", []int{258}},
		{queueOf("none", 1, 3071), 5, "queue none 1 3071 0 0 0 0 0 0 0 0 0 0 0", []int{3071}},
		{queueOf("7", 3, 5, 5), 5, "queue 7 3 5 5 0 0 0 0 0 0 0 0 0 0", []int{5, 5}},
	}
}

func dirs() []known {
	return []known{
		{dirOf(2), 6, "dir 2", []int{2}},
		{dirOf(3071), 6, "dir 3071", []int{3071}},
		{dirOf(9, 4), 6, "dir 9 4", []int{9, 4}},
		{dirOf(rising(1001, 16)...), 6, words("dir", rising(1001, 16)...), rising(1001, 16)},
	}
}

func supers() []known {
	last := rising(3064, 8)
	slices.Reverse(last)
	return []known{
		{superOf([8]int{1, 16, 1, 1}, 2), 7, "super 1 16 1 1 0 0 0 0 2", []int{2}},
		{superOf([8]int{2, 16, 8, 9, 0, 0, 0, 4}, 3), 7, "super 2 16 8 9 0 0 0 4 3", []int{4, 3}},
		{superOf([8]int{3, 17, 8, 9, 1, 0, 5, 0}, 16), 7, "super 3 17 8 9 1 0 5 0 16", []int{5, 16}},
		{superOf([8]int{258, 400, 300, 4294967295, 259, 257, 7, 9}, 2, 399), 7, "super 258 400 300 4294967295 259 257 7 9 2 399", []int{7, 9, 2, 399}},
		{superOf([8]int{5, 385, 1, 1, 1, 1, 6, 6}, 6, 7), 7, "super 5 385 1 1 1 1 6 6 6 7", []int{6, 6, 6, 7}}, // Top, Dir and a chart may be one number
		{superOf([8]int{1 << 62, 3072, 1792, 4294967295, 1792, 1792, 3071, 3070}, last...), 7, words("super 4611686018427387904 3072 1792 4294967295 1792 1792 3071 3070", last...), append([]int{3071, 3070}, last...)},
	}
}

// cells are some of each kind, with all that their kind has at its edges.
func cells() []known {
	return slices.Concat(nodes(), leaves(), fans(), charts(), queues(), dirs(), supers())
}

// told fails if a cell's kind, kids and text aren't those.
func told(t *testing.T, x known) {
	t.Helper()
	if kind := cell.Kind(x.b); kind != x.kind {
		t.Errorf("%s: kind %d", x.text, kind)
	}
	if kids := cell.Kids(x.b); !slices.Equal(kids, x.kids) {
		t.Errorf("%s: kids %v, not %v", x.text, kids, x.kids)
	}
	if text := cell.Text(x.b); text != x.text {
		t.Errorf("%s: text %s", x.text, text)
	}
}

// turned fails if another kid doesn't lead to that cell.
func turned(t *testing.T, b []byte, from, to int, want []byte) {
	t.Helper()
	if c, ok := cell.Turn(b, from, to); !ok || !bytes.Equal(c, want) {
		t.Errorf("%s: from %d to %d: %s, %v, not %s", cell.Text(b), from, to, cell.Text(c), ok, cell.Text(want))
	}
}

// unturned fails if another kid leads to a cell.
func unturned(t *testing.T, b []byte, from, to int) {
	t.Helper()
	if c, ok := cell.Turn(b, from, to); ok || len(c) != 0 {
		t.Errorf("%s: from %d to %d: %x, %v", cell.Text(b), from, to, c, ok)
	}
}

// none fails if anything is told of octets.
func none(t *testing.T, why string, b []byte) {
	t.Helper()
	told(t, known{b, 0, "none", nil})
	for _, x := range [][2]int{{0, 0}, {0, 5}, {2, 2}, {2, 5}, {9, 7}, {5, 0}, {-1, -1}, {math.MinInt, math.MaxInt}} {
		if c, ok := cell.Turn(b, x[0], x[1]); ok || len(c) != 0 {
			t.Errorf("%s: %x: from %d to %d: %x, %v", why, b, x[0], x[1], c, ok)
		}
	}
	if e, ok := cell.Entry(b); ok || e != (api.Entry{}) {
		t.Errorf("%s: %x: entry %v, %v", why, b, e, ok)
	}
	if s, ok := cell.Name(b); ok || s != "" {
		t.Errorf("%s: %x: name %q, %v", why, b, s, ok)
	}
}

func TestExample(t *testing.T) { // P14.1: the chapter's example
	b, ok := page.PutLeaf(api.Leaf{Seats: [7]api.Seat{1: {Live: true, Gen: 3, Next: 9}}})
	if text := cell.Text(b); !ok || text != "leaf 0-0 3+9 0-0 0-0 0-0 0-0 0-0" {
		t.Errorf("%s, %v", text, ok)
	}
}

func TestOctetByOctet(t *testing.T) { // P14.1: blocks written out, the sums too
	for _, x := range []struct {
		octets string
		behind int
		want   known
	}{
		{"ca19205c" + "01030000" + "fbffffffffffffff" + "0201000000000000" + "03000000" + "01000000" + "070003020700", 26,
			known{nil, 1, "node 3.1 -5 258 7 515 7", []int{7, 515, 7}}},
		{"37ef6891" + "02020000" + "0000000000000000" + "0300000009000000", 40,
			known{nil, 2, "leaf 0-0 3+9 0-0 0-0 0-0 0-0 0-0", []int{9}}},
		{"bd84e604" + "02490000" + "01000000ff0b0000" + "0200000005000000" + "0000000000000000" + "ffffffff02010000" + "0500000000000000" + "0600000000070000" + "0700000002000000", 0,
			known{nil, 2, "leaf 1+3071 2-5 0-0 4294967295+258 5-0 6-1792 7+2", []int{3071, 258, 2}}},
		{"aa0c18e0" + "03000000" + "000005000000ff0b" + strings.Repeat("0000", 11) + "0201", 24,
			known{nil, 3, "fan 0 5 0 3071 0 0 0 0 0 0 0 0 0 0 0 258", []int{5, 3071, 258}}},
		{"4a7435c4" + "04010000" + "0100ff" + strings.Repeat("00", 44) + "80", 8,
			known{nil, 4, "chart 1 10", nil}},
		{"84fed1fe" + "05020000" + "05080000" + "070000000900" + strings.Repeat("0000", 8) + "ff0b" + "c39f", 26,
			known{nil, 5, "queue ß 2053 7 0 9 0 0 0 0 0 0 0 0 3071", []int{7, 9, 3071}}},
		{"617dab7a" + "06030000" + "0900ff0b0201", 50,
			known{nil, 6, "dir 9 3071 258", []int{9, 3071, 258}}},
		{"907e68cd" + "07020000" + "0201000000000000" + "81010000" + "2c010000" + "ffffffff" + "03010000" + "02010000" + "0700" + "0900" + "02008001", 20,
			known{nil, 7, "super 258 385 300 4294967295 259 258 7 9 2 384", []int{7, 9, 2, 384}}},
	} {
		b, err := hex.DecodeString(x.octets + strings.Repeat("00", x.behind))
		if err != nil || len(b) != 64 {
			t.Fatal(x.want.text, err, len(b))
		}
		x.want.b = b
		told(t, x.want)
		turned(t, b, 0, 0, b)
	}
}

func TestCells(t *testing.T) { // P14.1
	kinds := map[int]int{}
	for _, x := range cells() {
		told(t, x)
		kinds[x.kind]++
	}
	for kind := 1; kind <= 7; kind++ {
		if kinds[kind] < 4 {
			t.Errorf("kind %d: %d cells", kind, kinds[kind])
		}
	}
}

func TestLayers(t *testing.T) { // P14.1: what the layers below lay, with the numbers of api
	lay := func(b []byte, ok bool) []byte {
		if !ok {
			t.Error("none was laid")
		}
		return b
	}
	told(t, known{lay(node.Put(api.Node{Entry: api.Entry{Handle: api.Handle{Slot: 1, Gen: 2}, Key: 3, Value: 4}, Kids: []int{5}})), api.KindNode, "node 1.2 3 4 5", []int{5}})
	told(t, known{lay(page.PutLeaf(api.Leaf{})), api.KindLeaf, "leaf 0-0 0-0 0-0 0-0 0-0 0-0 0-0", nil})
	told(t, known{lay(page.PutFan(api.Fan{})), api.KindFan, "fan 0 0 0 0 0 0 0 0 0 0 0 0 0 0 0 0", nil})
	for place := range 8 {
		c := api.Chart{Place: place}
		for i := range 384 {
			c, _ = chart.Mark(c, place*384+i*7%384, true)
			if i%61 == 0 || i == 383 {
				told(t, known{lay(chart.Put(c)), api.KindChart, words("chart", place, i+1), nil})
			}
		}
	}
	told(t, known{lay(label.PutQueue(api.Queue{Name: "q", Count: 2, Roots: api.Roots{1: 5}})), api.KindQueue, "queue q 2 0 5 0 0 0 0 0 0 0 0 0 0", []int{5}})
	told(t, known{lay(label.PutDir(api.Dir{Queues: []int{5, 2}})), api.KindDir, "dir 5 2", []int{5, 2}})
	s := api.Super{Epoch: 1, Charts: []int{2}}
	s.Geometry = api.Geometry{Blocks: 16, Slots: 3, Gens: 4}
	told(t, known{lay(super.Put(s)), api.KindSuper, "super 1 16 3 4 0 0 0 0 2", []int{2}})
}

func TestSeats(t *testing.T) { // P14.1: each seat, Live and not
	for at := range 7 {
		for live := range 2 {
			seats, want := make([]seat, 7), slices.Repeat([]string{"0-0"}, 7)
			seats[at], want[at] = seat{live, 3, 9}, []string{"3-9", "3+9"}[live]
			told(t, known{leafOf(seats...), 2, "leaf " + strings.Join(want, " "), rising(9, live)})
		}
	}
}

func TestPlacesOfKids(t *testing.T) { // P14.1, P14.2: a fan's only kid, a queue's only root, at each place
	for at := range 16 {
		all := make([]int, 16)
		all[at] = 258
		b := fanOf(all...)
		told(t, known{b, 3, words("fan", all...), []int{258}})
		all[at] = 3071
		turned(t, b, 258, 3071, fanOf(all...))
		turned(t, b, 258, 0, fanOf())
		unturned(t, b, 258, 3072)
	}
	for at := range 12 {
		b := queueOf("q", pow(at), 258)
		all := make([]int, 12)
		all[at] = 258
		told(t, known{b, 5, words(words("queue q", pow(at)), all...), []int{258}})
		turned(t, b, 258, 2, queueOf("q", pow(at), 2))
		unturned(t, b, 258, 0)
	}
}

func TestTurn(t *testing.T) { // P14.2: each kind
	n := nodeOf(3, 1, -5, 6, 7, 8, 7)
	turned(t, n, 7, 12, nodeOf(3, 1, -5, 6, 12, 8, 12)) // at each place where it stands
	turned(t, n, 8, 7, nodeOf(3, 1, -5, 6, 7, 7, 7))    // Kids may be alike
	turned(t, n, 7, 8, nodeOf(3, 1, -5, 6, 8, 8, 8))
	turned(t, n, 8, 2, nodeOf(3, 1, -5, 6, 7, 2, 7))
	turned(t, n, 8, 3071, nodeOf(3, 1, -5, 6, 7, 3071, 7))
	turned(t, nodeOf(9, 9, 9, 9, 9, 9), 9, 10, nodeOf(9, 9, 9, 9, 10, 10)) // the Kids alone
	l := leafOf(seat{1, 9, 9}, seat{0, 9, 9}, seat{1, 3, 8}, seat{}, seat{0, 9, 0}, seat{1, 1, 9})
	turned(t, l, 9, 7, leafOf(seat{1, 9, 7}, seat{0, 9, 9}, seat{1, 3, 8}, seat{}, seat{0, 9, 0}, seat{1, 1, 7})) // of the Live ones alone
	turned(t, l, 8, 9, leafOf(seat{1, 9, 9}, seat{0, 9, 9}, seat{1, 3, 9}, seat{}, seat{0, 9, 0}, seat{1, 1, 9}))
	turned(t, l, 8, 3071, leafOf(seat{1, 9, 9}, seat{0, 9, 9}, seat{1, 3, 3071}, seat{}, seat{0, 9, 0}, seat{1, 1, 9}))
	f := fanOf(0, 5, 7, 0, 5)
	turned(t, f, 5, 6, fanOf(0, 6, 7, 0, 6))
	turned(t, f, 5, 7, fanOf(0, 7, 7, 0, 7))
	turned(t, f, 5, 0, fanOf(0, 0, 7)) // a fan's kid may be 0
	turned(t, f, 7, 0, fanOf(0, 5, 0, 0, 5))
	turned(t, f, 0, 9, f) // which is no kid
	q := queueOf("q", 13, 7, 9, 7)
	turned(t, q, 7, 8, queueOf("q", 13, 8, 9, 8))
	turned(t, q, 9, 7, queueOf("q", 13, 7, 7, 7))
	turned(t, q, 13, 2, q) // the Count is no kid
	d := dirOf(9, 4, 7)
	turned(t, d, 9, 3, dirOf(3, 4, 7))
	turned(t, d, 7, 3071, dirOf(9, 4, 3071))
	unturned(t, d, 9, 4) // no two alike
	unturned(t, d, 9, 7)
	unturned(t, d, 7, 9)
	turned(t, d, 9, 9, d)
	for _, kid := range []int{7, 8, 9, 5} {
		for _, b := range [][]byte{n, l, f, q, d} {
			isThere := slices.Contains(cell.Kids(b), kid)
			for _, to := range []int{1, 3072, 3073, -1, -2, -kid, 65535, 65536, 65536 + 2, 65536 + kid, 1 << 32, 1<<32 + 2, 2 - 1<<32, math.MinInt, math.MinInt + 2, math.MaxInt} {
				if isThere {
					unturned(t, b, kid, to)
				} else {
					turned(t, b, kid, to, b)
				}
			}
			if isThere && !bytes.Equal(b, f) {
				unturned(t, b, kid, 0)
			}
		}
	}
}

func TestTurnOfSupers(t *testing.T) { // P14.2
	with := func(top, dir int, charts ...int) []byte {
		return superOf([8]int{9, 400, 9, 9, 9, 9, top, dir}, charts...)
	}
	s := with(7, 9, 2, 399)
	turned(t, s, 7, 8, with(8, 9, 2, 399))
	turned(t, s, 9, 8, with(7, 8, 2, 399))
	turned(t, s, 2, 8, with(7, 9, 8, 399))
	turned(t, s, 399, 8, with(7, 9, 2, 8))
	turned(t, s, 7, 9, with(9, 9, 2, 399)) // Top, Dir and a chart may be one number
	turned(t, s, 9, 399, with(7, 399, 2, 399))
	turned(t, s, 2, 7, with(7, 9, 7, 399))
	unturned(t, s, 2, 399) // no two Charts alike
	unturned(t, s, 399, 2)
	turned(t, s, 9, 0, with(7, 0, 2, 399)) // a superblock's Dir may be 0
	turned(t, with(7, 0, 2, 399), 0, 9, with(7, 0, 2, 399))
	for _, kid := range []int{7, 2, 399} {
		unturned(t, s, kid, 0)
	}
	all := with(5, 5, 6, 5)
	turned(t, all, 5, 12, with(12, 12, 6, 12)) // at each place where it stands
	unturned(t, all, 5, 6)
	unturned(t, all, 6, 5)
	unturned(t, all, 5, 0)
	for _, kid := range []int{7, 9, 2, 399} {
		for _, to := range []int{1, -1, 400, 401, 3071, 3072, 65536 + 8, 1<<32 + 8, math.MinInt, math.MaxInt} {
			unturned(t, s, kid, to)
		}
	}
	for _, blocks := range []int{16, 17, 383, 384, 385, 3071, 3072} { // to Blocks - 1 and to Blocks
		charts := rising(2, (blocks+383)/384)
		s := superOf([8]int{1, blocks, 5, 5, 1, 1, 11, 12}, charts...)
		turned(t, s, 11, blocks-1, superOf([8]int{1, blocks, 5, 5, 1, 1, blocks - 1, 12}, charts...))
		turned(t, s, 12, blocks-1, superOf([8]int{1, blocks, 5, 5, 1, 1, 11, blocks - 1}, charts...))
		turned(t, s, 2, blocks-1, superOf([8]int{1, blocks, 5, 5, 1, 1, 11, 12}, append([]int{blocks - 1}, charts[1:]...)...))
		for _, kid := range []int{11, 12, 2} {
			unturned(t, s, kid, blocks)
			unturned(t, s, kid, blocks+1)
		}
	}
	empty := superOf([8]int{1, 16, 16, 16}, 2)
	for _, no := range []int{1, 16, 0} { // the epoch, the geometry, and what isn't there, are no kids
		turned(t, empty, no, 9, empty)
	}
}

// place is where octets may have a kid: from at on, so many octets.
type place struct{ at, octets int }

// places are a cell's by the document's own words: in order, those that are 0 among them.
func places(b []byte) []place {
	var out []place
	run := func(first, n int) {
		for i := range n {
			out = append(out, place{first + 2*i, 2})
		}
	}
	switch tag := int(b[5]); b[4] {
	case 1:
		run(8+24, tag)
	case 2:
		for i := range 7 {
			if tag/pow(i)%2 == 1 {
				out = append(out, place{8 + 8*i + 4, 4})
			}
		}
	case 3:
		run(8, 16)
	case 5:
		run(8+4, 12)
	case 6:
		run(8, tag)
	case 7:
		run(8+28, 2+tag)
	}
	return out
}

// value is the number at a place.
func (p place) value(b []byte) int {
	v := 0
	for i := p.octets - 1; i >= 0; i-- {
		v = v*256 + int(b[p.at+i])
	}
	return v
}

// number is the one that so many octets from a place of the body on are.
func number(b []byte, at, octets int) int { return place{8 + at, octets}.value(b) }

// numbers are n of two octets each.
func numbers(b []byte, at, n int) []int {
	var out []int
	for i := range n {
		out = append(out, number(b, at+2*i, 2))
	}
	return out
}

// all tells whether all numbers may be.
func all(ns []int, may func(n int) bool) bool {
	return !slices.ContainsFunc(ns, func(n int) bool { return !may(n) })
}

// alike tells whether any two numbers are.
func alike(ns []int) bool {
	return len(slices.Compact(slices.Sorted(slices.Values(ns)))) < len(ns)
}

// isBlock is the document's own words for a block's number.
func isBlock(n int) bool { return n >= 2 && n <= 3071 }

// isName is the document's own words for a name.
func isName(s string) bool {
	if n := utf8.RuneCountInString(s); !utf8.ValidString(s) || n < 1 || n > 8 {
		return false
	}
	return !strings.ContainsFunc(s, func(r rune) bool {
		return !strings.ContainsRune("abcdefghijklmnopqrstuvwxyzABCDEFGHIJKLMNOPQRSTUVWXYZ0123456789-_", r) && (r < 0xa1 || r > 0xffef)
	})
}

// isCell is the document's own words for octets that are a right one's block.
func isCell(b []byte) bool {
	if len(b) != 64 || !bytes.Equal(b, summed(b)) || b[6] != 0 || b[7] != 0 {
		return false
	}
	tag := int(b[5])
	endsAt := func(at int) bool {
		return at <= 56 && !slices.ContainsFunc(b[8+at:], func(o byte) bool { return o != 0 })
	}
	switch b[4] {
	case 1:
		return tag <= 12 && endsAt(24+2*tag) && number(b, 16, 4) <= 1791 && number(b, 20, 4) >= 1 && all(numbers(b, 24, tag), isBlock)
	case 2:
		return tag <= 127 && isLeaf(b, tag)
	case 3:
		return tag == 0 && endsAt(32) && all(numbers(b, 0, 16), func(n int) bool { return n == 0 || isBlock(n) })
	case 4:
		return tag <= 7 && endsAt(48)
	case 5:
		return isQueue(b, tag, endsAt)
	case 6:
		return tag >= 1 && tag <= 16 && endsAt(2*tag) && all(numbers(b, 0, tag), isBlock) && !alike(numbers(b, 0, tag))
	case 7:
		return tag <= 8 && endsAt(32+2*tag) && isSuper(b, tag)
	}
	return false
}

func isLeaf(b []byte, tag int) bool {
	for i := range 7 {
		gen, next := number(b, 8*i, 4), number(b, 8*i+4, 4)
		live := tag/pow(i)%2 == 1
		if live && (gen < 1 || !isBlock(next)) || !live && (next > 1792 || gen == 0 && next != 0) {
			return false
		}
	}
	return true
}

func isQueue(b []byte, tag int, endsAt func(at int) bool) bool {
	if !endsAt(28+tag) || !isName(string(b[8+28:8+28+tag])) || number(b, 0, 4) > 4095 {
		return false
	}
	for i, root := range numbers(b, 4, 12) {
		if has := number(b, 0, 4)/pow(i)%2 == 1; has && !isBlock(root) || !has && root != 0 {
			return false
		}
	}
	return true
}

func isSuper(b []byte, tag int) bool {
	epoch := binary.LittleEndian.Uint64(b[8:])
	blocks, slots, gens, high, free := number(b, 8, 4), number(b, 12, 4), number(b, 16, 4), number(b, 20, 4), number(b, 24, 4)
	top, dir, charts := number(b, 28, 2), number(b, 30, 2), numbers(b, 32, tag)
	there := func(n int) bool { return n >= 2 && n <= blocks-1 }
	return epoch >= 1 && epoch <= 1<<62 && blocks >= 16 && blocks <= 3072 && slots >= 1 && slots <= 1792 && gens >= 1 &&
		high <= slots && free <= high && (high == 0 && top == 0 || high > 0 && there(top)) && (dir == 0 || there(dir)) &&
		tag == (blocks+383)/384 && all(charts, there) && !alike(charts)
}

// kidsOf are a cell's by the document's own words.
func kidsOf(b []byte) []int {
	var out []int
	for _, p := range places(b) {
		if v := p.value(b); v != 0 {
			out = append(out, v)
		}
	}
	return out
}

// textOf is a cell's by the document's own words.
func textOf(b []byte) string {
	tag := int(b[5])
	switch b[4] {
	case 1:
		key, value := int(binary.LittleEndian.Uint64(b[8:])), int(binary.LittleEndian.Uint64(b[16:]))
		return words(words(fmt.Sprintf("node %d.%d", number(b, 16, 4), number(b, 20, 4)), key, value), numbers(b, 24, tag)...)
	case 2:
		text := "leaf"
		for i := range 7 {
			text += fmt.Sprintf(" %d%c%d", number(b, 8*i, 4), "-+"[tag/pow(i)%2], number(b, 8*i+4, 4))
		}
		return text
	case 3:
		return words("fan", numbers(b, 0, 16)...)
	case 4:
		marked := 0
		for i := range 384 {
			marked += int(b[8+i/8]) / pow(i%8) % 2
		}
		return words("chart", tag, marked)
	case 5:
		return words(words("queue "+string(b[36:36+tag]), number(b, 0, 4)), numbers(b, 4, 12)...)
	case 6:
		return words("dir", numbers(b, 0, tag)...)
	}
	text := words("super", int(binary.LittleEndian.Uint64(b[8:])))
	for i := range 5 {
		text = words(text, number(b, 8+4*i, 4))
	}
	return words(text, numbers(b, 28, 2+tag)...)
}

// turnOf is what Turn leaves by the document's own words: the octets of each kid are others, and the sum is.
func turnOf(b []byte, from, to int) ([]byte, bool) {
	out := bytes.Clone(b)
	for _, p := range places(b) {
		if v := p.value(b); v != from || v == 0 {
			continue
		}
		if to < 0 || to > 65535 {
			return nil, false
		}
		copy(out[p.at:], middle(to)[:p.octets])
	}
	out = summed(out)
	return out, isCell(out)
}

// held fails if octets are told otherwise than by the document's own words.
func held(t *testing.T, b []byte) {
	t.Helper()
	if !isCell(b) {
		none(t, "by its words", b)
		return
	}
	told(t, known{b, int(b[4]), textOf(b), kidsOf(b)})
	e, ok := cell.Entry(b)
	var want api.Entry
	if b[4] == 1 {
		want.Key, want.Value = int(binary.LittleEndian.Uint64(b[8:])), int(binary.LittleEndian.Uint64(b[16:]))
		want.Handle = api.Handle{Slot: number(b, 16, 4), Gen: number(b, 20, 4)}
	}
	if ok != (b[4] == 1) || e != want {
		t.Errorf("%s: entry %v, %v", textOf(b), e, ok)
	}
	s, ok := cell.Name(b)
	name := ""
	if b[4] == 5 {
		name = string(b[36 : 36+int(b[5])])
	}
	if ok != (b[4] == 5) || s != name {
		t.Errorf("%s: name %q, %v", textOf(b), s, ok)
	}
}

// heldTurn fails if another kid leads elsewhere than by the document's own words.
func heldTurn(t *testing.T, b []byte, from, to int) {
	t.Helper()
	if want, ok := turnOf(b, from, to); ok {
		turned(t, b, from, to, want)
	} else {
		unturned(t, b, from, to)
	}
}

// ends are numbers that are no block's in any cell, at the edges of what may be, and some that may be.
func ends() []int {
	return []int{0, 1, 2, 3, 15, 16, 17, 257, 258, 384, 399, 400, 1792, 1793, 3070, 3071, 3072, 3073, 4096, 65535, 65536, 65536 + 2, 65536 + 9, 1<<31 - 1, 1 << 32, 1<<32 + 2, 1<<32 + 9, 1 << 62,
		-1, -2, -9, -3071, -65536 + 9, 9 - 1<<32, math.MaxInt - 1, math.MaxInt, math.MinInt, math.MinInt + 1, math.MinInt + 9}
}

// outside are numbers from which a cell has none to be turned.
func outside(b []byte) []int {
	out := ends()
	for i := range 56 { // whatever its octets are as numbers
		out = append(out, number(b, i, 1), number(b, i&^1, 2), number(b, i&^3, 4))
	}
	return slices.DeleteFunc(out, func(n int) bool { return n != 0 && slices.Contains(kidsOf(b), n) })
}

func TestByItsWords(t *testing.T) { // P14.1, P14.3
	for _, x := range cells() {
		if !isCell(x.b) || textOf(x.b) != x.text || !slices.Equal(kidsOf(x.b), x.kids) {
			t.Fatalf("%s: %s, %v", x.text, textOf(x.b), kidsOf(x.b))
		}
		held(t, x.b)
	}
}

func TestTurnFromEachKid(t *testing.T) { // P14.2: to whatever it is
	for _, x := range cells() {
		for _, from := range x.kids {
			for _, to := range append(ends(), x.kids...) {
				heldTurn(t, x.b, from, to)
			}
			turned(t, x.b, from, from, x.b)
		}
	}
}

func TestTurnFromNoKid(t *testing.T) { // P14.2, P14.4: the same octets, whatever to is
	for _, x := range cells() {
		for _, from := range outside(x.b) {
			for _, to := range append([]int{from, 0, 1, 2, 9, 3071, 3072, -1, math.MinInt, math.MaxInt, 65536 + 9}, x.kids...) {
				turned(t, x.b, from, to, x.b)
			}
		}
	}
}

func TestTurnToEachNumber(t *testing.T) { // P14.2: all that may be, and those about them
	for _, b := range [][]byte{nodeOf(1, 1, 1, 1, 7, 9), leafOf(seat{1, 1, 7}, seat{0, 7, 7}), fanOf(7), queueOf("a", 3, 7, 9), dirOf(7, 9), superOf([8]int{1, 400, 1, 1, 1, 1, 7, 9}, 3, 5), superOf([8]int{1, 400, 1, 1, 1, 1, 9, 8}, 7, 5)} {
		for to := -5; to < 3100; to++ {
			heldTurn(t, b, 7, to)
		}
	}
}

func TestThereAndBack(t *testing.T) { // P14.4
	backs := 0
	for _, x := range cells() {
		for _, from := range x.kids {
			for _, to := range ends() {
				there, ok := cell.Turn(x.b, from, to)
				if !ok || to == 0 || slices.Contains(x.kids, to) {
					continue
				}
				if bytes.Equal(there, x.b) || slices.Contains(cell.Kids(there), from) || !slices.Contains(cell.Kids(there), to) {
					t.Errorf("%s: from %d to %d: %s", x.text, from, to, cell.Text(there))
				}
				turned(t, there, to, from, x.b)
				turned(t, there, from, to, there)
				backs++
			}
		}
	}
	if backs < 1000 {
		t.Errorf("there and back %d times alone", backs)
	}
}

func TestTurnLeavesTheRest(t *testing.T) { // P14.4: no octet but those of the kid, and the sum
	for _, x := range cells() {
		for _, p := range places(x.b) {
			from := p.value(x.b)
			there, ok := cell.Turn(x.b, from, 258)
			if from == 0 || !ok {
				continue
			}
			for at := 4; at < 64; at++ {
				turnedHere := slices.ContainsFunc(places(x.b), func(q place) bool { return q.value(x.b) == from && at >= q.at && at < q.at+q.octets })
				if !turnedHere && there[at] != x.b[at] {
					t.Errorf("%s: from %d: octet %d is %d", x.text, from, at, there[at])
				}
			}
		}
	}
}

func TestEntry(t *testing.T) { // P14.3
	for _, x := range []struct{ slot, gen, key, value int }{{0, 1, 0, 0}, {3, 1, -5, 6}, {1791, 4294967295, math.MinInt, math.MaxInt}, {258, 65536, math.MaxInt, math.MinInt}, {7, 8, -1, -1}, {1, 2, 3, 4}} {
		for n := range 13 {
			e, ok := cell.Entry(nodeOf(x.slot, x.gen, x.key, x.value, rising(9, n)...))
			if !ok || e != (api.Entry{Handle: api.Handle{Slot: x.slot, Gen: x.gen}, Key: x.key, Value: x.value}) {
				t.Errorf("%v: %v, %v", x, e, ok)
			}
		}
	}
	for _, x := range cells() {
		if e, ok := cell.Entry(x.b); ok != (x.kind == 1) || !ok && e != (api.Entry{}) {
			t.Errorf("%s: %v, %v", x.text, e, ok)
		}
	}
}

func TestName(t *testing.T) { // P14.3
	for _, name := range []string{"a", "z", "ab", "A", "Z", "0", "9", "-", "_", "abcdefgh", "ß", "aß", "¡", "\uffef", "日本", "日本語日本語日本", strings.Repeat("\uffef", 8), "none", "leaf"} {
		for _, b := range [][]byte{queueOf(name, 0), queueOf(name, 5, 7, 9), queueOf(name, 4095, rising(9, 12)...)} {
			if s, ok := cell.Name(b); !ok || s != name {
				t.Errorf("%s: %q, %v", name, s, ok)
			}
			if !strings.HasPrefix(cell.Text(b), "queue "+name+" ") {
				t.Errorf("%s: %s", name, cell.Text(b))
			}
		}
	}
	for _, x := range cells() {
		if s, ok := cell.Name(x.b); ok != (x.kind == 5) || !ok && s != "" {
			t.Errorf("%s: %q, %v", x.text, s, ok)
		}
	}
}

func TestNothing(t *testing.T) { // P14.1 to P14.3
	none(t, "nil", nil)
	for n := range 200 {
		none(t, "noughts", make([]byte, n))
		none(t, "octets of 255", bytes.Repeat([]byte{255}, n))
	}
}

func TestNoBlock(t *testing.T) { // P14.1 to P14.3: octets that are no block, though a cell's are in them
	for _, x := range cells() {
		for n := range 64 {
			none(t, "too few", x.b[:n])
			none(t, "without the first", x.b[64-n:])
		}
		none(t, "one more", append(bytes.Clone(x.b), 0))
		none(t, "one more ahead", append([]byte{0}, x.b...))
		none(t, "two of them", append(bytes.Clone(x.b), x.b...))
		for at := range 64 {
			c := bytes.Clone(x.b)
			c[at] ^= 1 << (at % 8)
			none(t, "a bit turned", c)
		}
		for _, at := range []int{6, 7} { // these two are noughts in a block
			c := bytes.Clone(x.b)
			c[at] = 1
			none(t, "no nought", summed(c))
		}
	}
}

func TestNoKind(t *testing.T) { // P14.1 to P14.3: a block of a kind that there is none of
	for kind := range 256 {
		if kind >= 1 && kind <= 7 {
			continue
		}
		none(t, "no kind", blockOf(kind, 0, nil))
		for _, x := range cells() {
			none(t, "no kind", blockOf(kind, int(x.b[5]), x.b[8:]))
		}
	}
}

func TestOtherKinds(t *testing.T) { // P14.1 to P14.3: each kind's tag and body as each other kind's
	for _, x := range cells() {
		for kind := range 9 {
			held(t, blockOf(kind, int(x.b[5]), x.b[8:]))
		}
	}
}

func TestWrongBodies(t *testing.T) { // P14.1 to P14.3: blocks of each kind whose body is none of it
	for _, b := range [][]byte{
		nodeOf(1792, 1, 0, 0), nodeOf(0, 0, 0, 0), nodeOf(0, 1, 0, 0, 1), nodeOf(0, 1, 0, 0, 3072), nodeOf(0, 1, 0, 0, 0), nodeOf(0, 1, 0, 0, rising(2, 13)...), nodeOf(1<<32-1, 1, 0, 0, 5),
		blockOf(1, 0, nil), blockOf(1, 1, nodeOf(0, 1, 0, 0)[8:]), blockOf(1, 0, nodeOf(0, 1, 0, 0, 5)[8:]), blockOf(1, 255, nodeOf(0, 1, 0, 0)[8:]),
		leafOf(seat{1, 0, 9}), leafOf(seat{1, 1, 1}), leafOf(seat{1, 1, 0}), leafOf(seat{1, 1, 3072}), leafOf(seat{0, 1, 1793}), leafOf(seat{0, 0, 1}), leafOf(seat{0, 1, 1<<32 - 1}), leafOf(seat{1, 1, 65536 + 9}),
		blockOf(2, 128, nil), blockOf(2, 1, nil), blockOf(2, 255, leafOf(slices.Repeat([]seat{{1, 8, 5}}, 7)...)[8:]),
		fanOf(1), fanOf(3072), fanOf(0, 5, 65535), fanOf(append(make([]int, 15), 1)...), fanOf(append(make([]int, 16), 5)...), blockOf(3, 1, nil), blockOf(3, 255, nil), blockOf(3, 0, append(make([]byte, 55), 1)),
		chartOf(8), chartOf(255), chartOf(0, append(make([]byte, 48), 1)...), chartOf(7, append(make([]byte, 55), 128)...),
		queueOf("", 0), queueOf("a b", 0), queueOf("a", 1, 1), queueOf("a", 1, 0), queueOf("a", 1, 3072), queueOf("123456789", 0), queueOf("\xff", 0), queueOf("a\x00", 0), queueOf("\ufff0", 0),
		queueOf("a", 4096), queueOf("a", 1<<32-1, slices.Repeat([]int{9}, 12)...), blockOf(5, 1, slices.Concat(middle(0), short(5, 0, 0, 0, 0, 0, 0, 0, 0, 0, 0, 0), []byte("a"))),
		blockOf(5, 1, queueOf("ab", 0)[8:]), blockOf(5, 2, queueOf("a", 0)[8:]), blockOf(5, 28, queueOf("a", 0)[8:]), blockOf(5, 29, queueOf("a", 0)[8:]), blockOf(5, 255, queueOf("a", 0)[8:]),
		dirOf(), dirOf(1), dirOf(0), dirOf(3072), dirOf(9, 9), dirOf(9, 4, 9), dirOf(9, 4, 0), dirOf(rising(2, 17)...), blockOf(6, 1, dirOf(9, 4)[8:]), blockOf(6, 255, dirOf(9, 4)[8:]), blockOf(6, 1, append(short(9), append(make([]byte, 53), 1)...)),
		superOf([8]int{0, 16, 1, 1}, 2), superOf([8]int{1<<62 + 1, 16, 1, 1}, 2), superOf([8]int{-1, 16, 1, 1}, 2), superOf([8]int{1, 15, 1, 1}, 2), superOf([8]int{1, 3073, 1, 1}, rising(2, 9)...), superOf([8]int{1, 16, 0, 1}, 2),
		superOf([8]int{1, 16, 1793, 1}, 2), superOf([8]int{1, 16, 1, 0}, 2), superOf([8]int{1, 16, 1, 1, 2, 0, 5}, 2), superOf([8]int{1, 16, 1, 1, 1, 0, 0}, 2), superOf([8]int{1, 16, 1, 1, 1, 0, 16}, 2), superOf([8]int{1, 16, 1, 1, 0, 0, 5}, 2),
		superOf([8]int{1, 16, 1, 1, 0, 1}, 2), superOf([8]int{1, 16, 1, 1, 0, 0, 0, 1}, 2), superOf([8]int{1, 16, 1, 1, 0, 0, 0, 16}, 2), superOf([8]int{1, 16, 1, 1}), superOf([8]int{1, 16, 1, 1}, 2, 3), superOf([8]int{1, 16, 1, 1}, 16),
		superOf([8]int{1, 16, 1, 1}, 1), superOf([8]int{1, 385, 1, 1}, 2), superOf([8]int{1, 385, 1, 1}, 9, 9), blockOf(7, 255, superOf([8]int{1, 16, 1, 1}, 2)[8:]), blockOf(7, 1, append(superOf([8]int{1, 16, 1, 1}, 2)[8:63], 1)),
	} {
		if _, _, _, ok := block.Open(b); !ok || isCell(b) {
			t.Fatalf("%x", b)
		}
		none(t, "a wrong body", b)
	}
}

func TestEachOctet(t *testing.T) { // P14.1 to P14.3: each octet of a cell to others, with the right sum
	for _, x := range cells() {
		for at := 4; at < 64; at++ {
			for _, by := range []byte{0, 1, 2, 7, 8, 11, 12, 32, 127, 128, 254, 255} {
				c := bytes.Clone(x.b)
				c[at] = by
				held(t, summed(c))
			}
		}
	}
}

// octetsWithRoom is octets with room on both sides, all of it marked, and a copy of all.
func octetsWithRoom(b []byte) (inner, room, was []byte) {
	room = append(bytes.Repeat([]byte{170}, 8), b...)
	room = append(room, bytes.Repeat([]byte{170}, 100)...)
	return room[8 : 8+len(b)], room, bytes.Clone(room)
}

// spoil fills a list and its spare room.
func spoil[T byte | int](list []T) {
	list = list[:cap(list)]
	for i := range list {
		list[i] = 85
	}
}

func TestOctetsHandedInStay(t *testing.T) { // P14.4
	var all [][]byte
	for _, x := range cells() {
		all = append(all, x.b, x.b[:63], x.b[8:], append(bytes.Clone(x.b), 0), blockOf(9, 1, x.b[8:]), blockOf(1+x.kind%7, int(x.b[5]), x.b[8:]))
	}
	for _, b := range append(all, nil, []byte{}, make([]byte, 64)) {
		inner, room, was := octetsWithRoom(b)
		cell.Kind(inner)
		cell.Text(inner)
		cell.Entry(inner)
		cell.Name(inner)
		for _, from := range append(cell.Kids(inner), 0, -1, 1000) {
			for _, to := range []int{0, 1, 11, from, 3072, -1} {
				cell.Turn(inner, from, to)
			}
		}
		if !bytes.Equal(room, was) {
			t.Errorf("%x: changed to %x", was, room)
		}
	}
}

func TestTurnIsNew(t *testing.T) { // P14.4: changed neither with what was handed in nor with another answer, whether something was turned or not
	for _, x := range cells() {
		for _, from := range append(slices.Clone(x.kids), 0, 1000) {
			for _, to := range []int{from, 11, 2} {
				want, ok := turnOf(x.b, from, to)
				if !ok {
					continue
				}
				inner, room, was := octetsWithRoom(x.b)
				first, _ := cell.Turn(inner, from, to)
				second, _ := cell.Turn(inner, from, to)
				spoil(second)
				if !bytes.Equal(room, was) || !bytes.Equal(first, want) {
					t.Errorf("%s: shared with an answer", x.text)
				}
				spoil(room)
				if !bytes.Equal(first, want) {
					t.Errorf("%s: the octets were kept", x.text)
				}
				spoil(first)
				turned(t, x.b, from, to, want)
			}
		}
	}
}

func TestToldIsNew(t *testing.T) { // P14.4
	for _, x := range cells() {
		inner, room, was := octetsWithRoom(x.b)
		first, second := cell.Kids(inner), cell.Kids(inner)
		text := cell.Text(inner)
		e, isNode := cell.Entry(inner)
		name, isQueue := cell.Name(inner)
		spoil(second)
		if !bytes.Equal(room, was) || !slices.Equal(first, x.kids) {
			t.Errorf("%s: shared with an answer: %v", x.text, first)
		}
		spoil(room)
		if !slices.Equal(first, x.kids) || text != x.text {
			t.Errorf("%s: the octets were kept: %v, %s", x.text, first, text)
		}
		none(t, "spoilt", inner)
		if again, _ := cell.Entry(x.b); isNode && again != e {
			t.Errorf("%s: the octets were kept: %v", x.text, e)
		}
		if again, _ := cell.Name(x.b); isQueue && again != name {
			t.Errorf("%s: the octets were kept: %s", x.text, name)
		}
		spoil(first)
		told(t, x)
	}
}

// drawnBlocks are n numbers of blocks, below one, no two of them alike.
func drawnBlocks(r *rand.Rand, n, below int) []int {
	out := r.Perm(below - 2)[:n]
	for i := range out {
		out[i] += 2
	}
	return out
}

// drawnSeat is a right one.
func drawnSeat(r *rand.Rand) seat {
	switch gen := 1 + int(r.Uint32()>>r.Intn(32)); r.Intn(3) {
	case 0:
		return seat{}
	case 1:
		return seat{0, min(gen, 1<<32-1), r.Intn(1793)}
	default:
		return seat{1, min(gen, 1<<32-1), 2 + r.Intn(12)}
	}
}

// drawn is a cell of any kind.
func drawn(r *rand.Rand) []byte {
	switch 1 + r.Intn(7) {
	case 1:
		kids := drawnBlocks(r, r.Intn(13), 16)
		return nodeOf(r.Intn(1792), 1+r.Intn(1<<32-1), int(r.Uint64())>>r.Intn(64), int(r.Uint64())>>r.Intn(64), kids...)
	case 2:
		seats := make([]seat, 7)
		for i := range seats {
			seats[i] = drawnSeat(r)
		}
		return leafOf(seats...)
	case 3:
		kids := make([]int, 16)
		for i := range kids {
			kids[i] = (2 + r.Intn(3070)) * r.Intn(2)
		}
		return fanOf(kids...)
	case 4:
		bits := make([]byte, 48)
		r.Read(bits)
		return chartOf(r.Intn(8), bits...)
	case 5:
		return queueOf([]string{"a", "ß", "日本", "a-b_c9Z"}[r.Intn(4)], r.Intn(4096), drawnBlocks(r, 12, 3072)...)
	case 6:
		return dirOf(drawnBlocks(r, 1+r.Intn(16), 3072)...)
	}
	blocks, slots := 16+r.Intn(3057), 1+r.Intn(1792)
	high := r.Intn(slots + 1)
	some := drawnBlocks(r, 2, blocks)
	return superOf([8]int{1 + r.Intn(1<<62), blocks, slots, 1 + r.Intn(1<<32-1), high, r.Intn(high + 1), some[0] * min(high, 1), some[1] * r.Intn(2)}, drawnBlocks(r, (blocks+383)/384, blocks)...)
}

func TestModel(t *testing.T) { // P14.1 to P14.4
	r := rand.New(rand.NewSource(14))
	for range 3000 {
		b := drawn(r)
		if !isCell(b) {
			t.Fatalf("%x", b)
		}
		held(t, b)
		kids := append(kidsOf(b), ends()[r.Intn(len(ends()))])
		for range 5 {
			from, to := kids[r.Intn(len(kids))], kids[r.Intn(len(kids))]
			if r.Intn(2) == 0 {
				to = r.Intn(3200)
			}
			heldTurn(t, b, from, to)
		}
		c := bytes.Clone(b)
		c[4+r.Intn(60)] ^= byte(1 << r.Intn(8))
		none(t, "a bit turned", c)
		held(t, summed(c))
	}
}

func FuzzCell(f *testing.F) { // P14.1 to P14.4
	for _, x := range cells() {
		f.Add(x.kind, int(x.b[5]), 9, 7, x.b[8:])
	}
	f.Fuzz(func(t *testing.T, kind, tag, from, to int, rest []byte) {
		held(t, blockOf(kind, tag, rest))
		if len(rest) < 64 {
			none(t, "too few", rest)
		} else {
			held(t, summed(rest[:64]))
		}
		if b := blockOf(kind, tag, rest); isCell(b) {
			for _, kid := range append(kidsOf(b), from) {
				heldTurn(t, b, kid, to)
				heldTurn(t, b, kid, from)
			}
		}
	})
}
