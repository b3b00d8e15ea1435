package label_test

import (
	"bytes"
	"encoding/binary"
	"encoding/hex"
	"hash/crc32"
	"math"
	"math/rand"
	"slices"
	"strings"
	"testing"
	"unicode/utf8"

	"rickyard/api"
	"rickyard/block"
	"rickyard/label"
	"rickyard/name"
)

// powers are what each place of Roots counts.
func powers() []int {
	return []int{1, 2, 4, 8, 16, 32, 64, 128, 256, 512, 1024, 2048}
}

// counted tells whether a Count from 0 to 4095 has a tree at a place.
func counted(count, at int) bool {
	return count/powers()[at]%2 == 1
}

// queueOf is a queue that has these roots at the places that its Count tells, the first place's first; the last of them again if there are too few.
func queueOf(name string, count int, roots ...int) api.Queue {
	q := api.Queue{Name: name, Count: count}
	for i := range q.Roots {
		if counted(count, i) {
			q.Roots[i] = roots[0]
			roots = roots[min(1, len(roots)-1):]
		}
	}
	return q
}

// rooted is a queue with another root at a place.
func rooted(q api.Queue, at, root int) api.Queue {
	q.Roots[at] = root
	return q
}

// dirOf is a directory of these numbers.
func dirOf(queues ...int) api.Dir {
	return api.Dir{Queues: queues}
}

// blockOf are 64 octets of any kind and tag, with the right sum: known of another program's tables.
func blockOf(kind, tag int, body []byte) []byte {
	rest := make([]byte, 60)
	rest[0], rest[1] = byte(kind), byte(tag)
	copy(rest[4:], body)
	sum := crc32.Checksum(rest, crc32.MakeTable(crc32.Castagnoli))
	return append(binary.LittleEndian.AppendUint32(nil, sum), rest...)
}

// queueBody is a body by the document's own words, without the noughts, whatever the numbers and the Name are.
func queueBody(q api.Queue) []byte {
	b := binary.LittleEndian.AppendUint32(nil, uint32(q.Count))
	for _, root := range q.Roots {
		b = binary.LittleEndian.AppendUint16(b, uint16(root))
	}
	return append(b, q.Name...)
}

// laidQueue is a queue's block by the document's own words, with the right sum, whatever the numbers and the Name are.
func laidQueue(q api.Queue) []byte {
	return blockOf(5, len(q.Name), queueBody(q))
}

// dirBody is a body by the document's own words, without the noughts, whatever the numbers are.
func dirBody(d api.Dir) []byte {
	var b []byte
	for _, at := range d.Queues {
		b = binary.LittleEndian.AppendUint16(b, uint16(at))
	}
	return b
}

// laidDir is a directory's block by the document's own words, with the right sum, whatever the numbers are.
func laidDir(d api.Dir) []byte {
	return blockOf(6, len(d.Queues), dirBody(d))
}

// isName is the document's own words for a name.
func isName(s string) bool {
	if n := utf8.RuneCountInString(s); !utf8.ValidString(s) || n < 1 || n > 8 {
		return false
	}
	return !strings.ContainsFunc(s, func(r rune) bool {
		return !strings.ContainsRune("abcdefghijklmnopqrstuvwxyzABCDEFGHIJKLMNOPQRSTUVWXYZ0123456789-_", r) && (r < 0xa1 || r > 0xffef)
	})
}

// isQueue is the document's own words for a right queue.
func isQueue(q api.Queue) bool {
	if !isName(q.Name) || q.Count < 0 || q.Count > 4095 {
		return false
	}
	for i, root := range q.Roots {
		if counted(q.Count, i) && (root < 2 || root > 3071) || !counted(q.Count, i) && root != 0 {
			return false
		}
	}
	return true
}

// isDir is the document's own words for a right directory.
func isDir(d api.Dir) bool {
	if len(d.Queues) < 1 || len(d.Queues) > 16 {
		return false
	}
	for i, a := range d.Queues {
		for j, b := range d.Queues {
			if a < 2 || a > 3071 || i != j && a == b {
				return false
			}
		}
	}
	return true
}

// rightNames are the shortest and the longest that may be, and those with the runes at the edges.
func rightNames() []string {
	return []string{"a", "z", "A", "Z", "0", "9", "-", "_", "b", "ab", "ba", "aa", "abcdefgh", "--------", "a-b_C9",
		"ß", "ßa", "aß", "¡", "\u00ff", "\u0100", "\u07ff", "\u0800", "\ud7ff", "\ue000", "\uffef", "a\uffef", "\uffefa",
		"日本", "日本語日本語日本", strings.Repeat("¡", 8), strings.Repeat("\u07ff", 8), strings.Repeat("\u0800", 8), strings.Repeat("\uffef", 8), "_-Zz09¡\uffef"}
}

// wrongNames are texts that are no names: too short and too long ones, ones with another rune at the beginning, at the end and between, and octets that are no text.
func wrongNames() []string {
	out := []string{""}
	for _, s := range []string{" ", "\x00", "\x00\x00", "\n", "\x1f", "!", ",", ".", "/", ":", "@", "[", "^", "`", "{", "~", "\x7f", "\u0080", "\u009f", "\u00a0",
		"\ufff0", "\ufffd", "\uffff", "\U00010000", "\U0001f600", "\U0010ffff", "\x80", "\x9f", "\xa1", "\xc3", "\xe6\x97", "\xff", "\xc1\xa1", "\xe0\x80\xa1", "\xed\xa0\x80", "\xf0\x80\x82\xa1", "\xf4\x90\x80\x80"} {
		out = append(out, s, "a"+s, s+"a", "ß"+s+"日")
	}
	for _, n := range []int{9, 10, 16, 24, 25, 26, 27, 28, 29, 30, 56, 64, 255, 256, 257, 264, 100000} {
		out = append(out, strings.Repeat("a", n))
	}
	return append(out, strings.Repeat("ß", 9), strings.Repeat("日", 9), strings.Repeat("日", 8)+"a", strings.Repeat("\U0001f600", 6), strings.Repeat("\U0001f600", 8), strings.Repeat("日", 8)+"\x00", strings.Repeat("\xff", 8))
}

// counts are Counts that may be: none, each bit by itself, each one missing, all, and some more.
func counts() []int {
	out := []int{0, 4095, 3, 5, 6, 1365, 2730, 4000}
	for _, p := range powers() {
		out = append(out, p, 4095-p)
	}
	return out
}

// wrongCounts are Counts that may not be; of some the lower bits are those of one that may.
func wrongCounts() []int {
	return []int{-1, -2, -4095, -4096, math.MinInt, math.MinInt + 5, 4096, 4097, 4101, 8191, 65535, 65536, 65541, 1 << 31, 1<<31 + 5, 1<<32 - 1, 1 << 32, 1<<32 + 5, 5 - 1<<32, 1<<62 + 5, math.MaxInt}
}

// wrongNumbers are numbers of blocks that may not be, 0 aside; of some the lower bits are those of one that may.
func wrongNumbers() []int {
	return []int{1, -1, -2, -3071, 3072, 3073, 4096, 1<<16 - 1, 1 << 16, 1<<16 + 2, 2 - 1<<16, 1 << 32, 1<<32 + 2, 2 - 1<<32, math.MaxInt, math.MaxInt - 1, math.MinInt, math.MinInt + 2}
}

// rightNumbers are numbers of blocks at the edges, and some whose octets are unlike.
func rightNumbers() []int {
	return []int{2, 3, 255, 256, 257, 258, 511, 512, 2047, 2048, 3070, 3071}
}

// falling are twelve numbers of blocks, no two of them alike.
func falling() []int {
	return []int{3071, 2816, 2561, 2306, 2051, 1796, 1541, 1286, 1031, 776, 521, 266}
}

// rightQueues are right queues, no two of them alike.
func rightQueues() []api.Queue {
	var out []api.Queue
	for _, s := range rightNames() {
		out = append(out, queueOf(s, 0, 2), queueOf(s, 4095, falling()...))
	}
	for _, count := range counts() {
		for _, root := range []int{2, 258, 3071} { // two roots may be alike: the chapter rules that out for directories alone
			if count != 0 || root == 2 {
				out = append(out, queueOf("q", count, root), queueOf("日本語日本語日本", count|1024, root, 259))
			}
		}
	}
	whole := queueOf("r", 4095, falling()...)
	for at := range 12 {
		for _, root := range rightNumbers() {
			out = append(out, rooted(whole, at, root), queueOf("s", powers()[at], root))
		}
	}
	return unlike(out)
}

// unlike are the queues without those that are there already.
func unlike(qs []api.Queue) []api.Queue {
	seen := map[api.Queue]bool{}
	var out []api.Queue
	for _, q := range qs {
		if !seen[q] {
			out = append(out, q)
		}
		seen[q] = true
	}
	return out
}

// wrongQueues are queues that aren't right: each wrong name, each wrong Count, and each wrong root at each place, by itself and beside others.
func wrongQueues() []api.Queue {
	out := []api.Queue{{}, {Count: 5}, {Roots: api.Roots{2}}}
	for _, s := range wrongNames() {
		out = append(out, queueOf(s, 0, 2), queueOf(s, 4095, falling()...))
	}
	for _, count := range wrongCounts() {
		bare, whole := queueOf("q", 0, 2), queueOf("q", 4095, falling()...)
		bare.Count, whole.Count = count, count
		other := queueOf("q", int(uint(count)%4096), 7)
		other.Count = count
		out = append(out, bare, whole, other)
	}
	for at := range 12 {
		for _, root := range append(wrongNumbers(), 0) { // where the bit is 1
			out = append(out, queueOf("q", powers()[at], root), rooted(queueOf("q", 4095, falling()...), at, root))
		}
		for _, root := range append(wrongNumbers(), rightNumbers()...) { // where it is 0
			out = append(out, rooted(queueOf("q", 0, 2), at, root), rooted(queueOf("q", 4095-powers()[at], falling()...), at, root))
		}
	}
	return append(out, queueOf("", 4095, falling()...), api.Queue{Name: "a b", Count: -1, Roots: api.Roots{1}})
}

// rising are n numbers of blocks from first on.
func rising(first, n int) []int {
	var out []int
	for i := range n {
		out = append(out, first+i)
	}
	return out
}

// with is a copy of the numbers with another one at a place.
func with(numbers []int, at, v int) []int {
	out := slices.Clone(numbers)
	out[at] = v
	return out
}

// rightDirs are right directories, no two of them alike.
func rightDirs() []api.Dir {
	var out []api.Dir
	for n := 1; n <= 16; n++ {
		for at := range n {
			for _, v := range rightNumbers() {
				out = append(out, dirOf(with(rising(1001, n), at, v)...))
			}
		}
		back := rising(2000, n)
		slices.Reverse(back)
		out = append(out, dirOf(rising(3072-n, n)...), dirOf(rising(4, n)...), dirOf(append(back, 2)[1:]...))
	}
	return append(out, dirOf(20, 21), dirOf(21, 20), dirOf(3071, 2, 258), dirOf(3071, 258, 2))
}

// wrongDirs are directories that aren't right: too few, too many, each wrong number at each place, two alike at any two places.
func wrongDirs() []api.Dir {
	out := []api.Dir{{}, dirOf(), {Queues: make([]int, 0, 16)}}
	for _, n := range []int{17, 18, 24, 28, 29, 30, 32, 255, 256, 257, 258, 264, 272, 3000} {
		out = append(out, dirOf(rising(2, n)...), dirOf(slices.Repeat([]int{9}, n)...), dirOf(make([]int, n)...))
	}
	out = append(out, dirOf(slices.Repeat(rising(2, 16), 4096)...))
	for n := 1; n <= 16; n++ {
		for at := range n {
			for _, v := range append(wrongNumbers(), 0) {
				out = append(out, dirOf(with(rising(1001, n), at, v)...))
			}
			for other := range at {
				out = append(out, dirOf(with(rising(3055, n), at, 3055+other)...), dirOf(with(rising(2, n), other, 2+at)...))
			}
		}
	}
	return append(out, dirOf(2, 3, 2), dirOf(0, 0), dirOf(5, 5, 5))
}

// noQueue fails if octets are told as a queue.
func noQueue(t *testing.T, why string, b []byte) {
	t.Helper()
	if q, ok := label.GetQueue(b); ok || q != (api.Queue{}) {
		t.Errorf("%s: %x: %v, %v", why, b, q, ok)
	}
}

// noDir fails if octets are told as a directory.
func noDir(t *testing.T, why string, b []byte) {
	t.Helper()
	if d, ok := label.GetDir(b); ok || len(d.Queues) != 0 {
		t.Errorf("%s: %x: %v, %v", why, b, d, ok)
	}
}

// none fails if octets are told as a queue or a directory.
func none(t *testing.T, why string, b []byte) {
	t.Helper()
	noQueue(t, why, b)
	noDir(t, why, b)
}

// gotQueue fails if octets aren't told as that queue, or as a directory.
func gotQueue(t *testing.T, b []byte, want api.Queue) {
	t.Helper()
	if q, ok := label.GetQueue(b); !ok || q != want {
		t.Errorf("%x: %v, %v, not %v", b, q, ok, want)
	}
	noDir(t, "a queue's", b)
}

// gotDir fails if octets aren't told as that directory, or as a queue.
func gotDir(t *testing.T, b []byte, want api.Dir) {
	t.Helper()
	if d, ok := label.GetDir(b); !ok || !slices.Equal(d.Queues, want.Queues) {
		t.Errorf("%x: %v, %v, not %v", b, d, ok, want)
	}
	noQueue(t, "a directory's", b)
}

// putQueue fails if a queue isn't right, or another block is made of it.
func putQueue(t *testing.T, q api.Queue, want []byte) {
	t.Helper()
	if b, ok := label.PutQueue(q); !ok || !bytes.Equal(b, want) {
		t.Errorf("%v: %x, %v, not %x", q, b, ok, want)
	}
	if !label.RightQueue(q) {
		t.Errorf("%v isn't right", q)
	}
}

// putDir fails if a directory isn't right, or another block is made of it.
func putDir(t *testing.T, d api.Dir, want []byte) {
	t.Helper()
	if b, ok := label.PutDir(d); !ok || !bytes.Equal(b, want) {
		t.Errorf("%v: %x, %v, not %x", d, b, ok, want)
	}
	if !label.RightDir(d) {
		t.Errorf("%v isn't right", d)
	}
}

// notPutQueue fails if a queue is right, or a block is made of it.
func notPutQueue(t *testing.T, q api.Queue) {
	t.Helper()
	if b, ok := label.PutQueue(q); ok || len(b) != 0 {
		t.Errorf("%.100q, %d, %v: %x, %v", q.Name, q.Count, q.Roots, b, ok)
	}
	if label.RightQueue(q) {
		t.Errorf("%.100q, %d, %v is right", q.Name, q.Count, q.Roots)
	}
}

// notPutDir fails if a directory is right, or a block is made of it.
func notPutDir(t *testing.T, d api.Dir) {
	t.Helper()
	if b, ok := label.PutDir(d); ok || len(b) != 0 {
		t.Errorf("%v: %x, %v", d, b, ok)
	}
	if label.RightDir(d) {
		t.Errorf("%v is right", d)
	}
}

func TestExample(t *testing.T) { // P11.1: the chapter's example
	right := api.Queue{Name: "a", Count: 5, Roots: api.Roots{0: 9, 2: 258}}
	b, _ := hex.DecodeString("eab00978" + "05010000" + "05000000" + "090000000201" + "000000000000000000000000000000000000" + "61" + strings.Repeat("00", 27))
	putQueue(t, right, b)
	gotQueue(t, b, right)
	for places := range 4096 {
		q := api.Queue{Name: "a", Count: 5}
		for i := range q.Roots {
			if counted(places, i) {
				q.Roots[i] = 7 + i
			}
		}
		if got := label.RightQueue(q); got != (places == 5) {
			t.Errorf("%v: %v", q, got)
		}
	}
	if got := label.Trees(right.Roots); !slices.Equal(got, []int{9, 258}) { // P11.2
		t.Errorf("%v", got)
	}
}

func TestQueueOctetByOctet(t *testing.T) { // P11.1: blocks written out, the sums too
	for _, x := range []struct {
		q    api.Queue
		want string
	}{
		{api.Queue{Name: "a"}, "8b36ae76" + "05010000" + "00000000" + strings.Repeat("00", 24) + "61" + strings.Repeat("00", 27)},
		{api.Queue{Name: "_-Zz09¡\uffef", Count: 4095, Roots: api.Roots{3071, 2821, 2571, 2321, 2071, 1821, 1571, 1321, 1071, 821, 571, 321}},
			"1484d0cd" + "050b0000" + "ff0f0000" + "ff0b050b0b0a110917081d07230629052f0435033b024101" + "5f2d5a7a3039c2a1efbfaf" + strings.Repeat("00", 17)},
		{api.Queue{Name: "日本語日本語日本", Count: 2048, Roots: api.Roots{11: 2}},
			"4b769de5" + "05180000" + "00080000" + strings.Repeat("00", 22) + "0200" + "e697a5e69cace8aa9ee697a5e69cace8aa9ee697a5e69cac" + "00000000"},
	} {
		b, _ := hex.DecodeString(x.want)
		putQueue(t, x.q, b)
		gotQueue(t, b, x.q)
	}
}

func TestDirOctetByOctet(t *testing.T) { // P11.1: blocks written out, the sums too
	var many []int
	for i := range 16 {
		many = append(many, 2+200*i)
	}
	for _, x := range []struct {
		d    api.Dir
		want string
	}{
		{dirOf(2), "afea466f" + "06010000" + "0200" + strings.Repeat("00", 54)},
		{dirOf(3071, 2, 258), "f8e41bc2" + "06030000" + "ff0b02000201" + strings.Repeat("00", 50)},
		{dirOf(many...), "d69ee3e5" + "06100000" + "0200ca0092015a022203ea03b2047a0542060a07d2079a0862092a0af20aba0b" + strings.Repeat("00", 24)},
	} {
		b, _ := hex.DecodeString(x.want)
		putDir(t, x.d, b)
		gotDir(t, b, x.d)
	}
}

func TestPutQueue(t *testing.T) { // P11.1
	for _, q := range rightQueues() {
		putQueue(t, q, laidQueue(q))
	}
}

func TestPutDir(t *testing.T) { // P11.1
	for _, d := range rightDirs() {
		putDir(t, d, laidDir(d))
	}
}

func TestPutQueueNone(t *testing.T) { // P11.1
	for _, q := range wrongQueues() {
		notPutQueue(t, q)
	}
}

func TestPutDirNone(t *testing.T) { // P11.1
	for _, d := range wrongDirs() {
		notPutDir(t, d)
	}
}

func TestGetQueue(t *testing.T) { // P11.1: octets that the test laid, not PutQueue
	for _, q := range rightQueues() {
		gotQueue(t, laidQueue(q), q)
	}
}

func TestGetDir(t *testing.T) { // P11.1: octets that the test laid, not PutDir
	for _, d := range rightDirs() {
		gotDir(t, laidDir(d), d)
	}
}

func TestEachCount(t *testing.T) { // P11.1: with roots at its own bits it may be, with roots at another one's it may not
	for count := range 4096 {
		q := queueOf("q", count, falling()...)
		putQueue(t, q, laidQueue(q))
		gotQueue(t, laidQueue(q), q)
		for _, other := range []int{count ^ 1, count ^ 2048, count ^ powers()[count%12], count ^ 4095, count + 4096, count - 4096} {
			q.Count = other
			notPutQueue(t, q)
			none(t, "another Count", laidQueue(q))
		}
	}
	for count := -5000; count < 9000; count++ {
		for _, q := range []api.Queue{queueOf("q", 0, 2), queueOf("q", 4095, 2)} {
			trees := q.Count
			q.Count = count
			if right := label.RightQueue(q); right != (count == trees) {
				t.Errorf("%v: %v", q, right)
			}
		}
	}
}

func TestEachNumber(t *testing.T) { // P11.1
	whole := queueOf("q", 4095, falling()...)
	for v := -3; v < 70000; v++ {
		at := (v + 3) % 12
		right := v >= 2 && v <= 3071
		if got := label.RightQueue(rooted(whole, at, v)); got != right {
			t.Errorf("%d at %d: %v", v, at, got)
		}
		if got := label.RightDir(dirOf(v)); got != right {
			t.Errorf("a directory of %d: %v", v, got)
		}
		if right || v < 0 || v > 65535 {
			continue
		}
		noQueue(t, "a wrong root", laidQueue(rooted(whole, at, v)))
		noDir(t, "a wrong number", laidDir(dirOf(v)))
	}
}

func TestEachRune(t *testing.T) { // P11.1: of a name by itself, and at the end of one
	for r := rune(-1); r <= 0x10ffff+1; r++ {
		s := string(r)
		if r > 0x12000 && r < 0x10fff0 {
			continue
		}
		for _, s := range []string{s, "abcdefg" + s} {
			if got := label.RightQueue(api.Queue{Name: s}); got != isName(s) {
				t.Errorf("%q: %v", s, got)
			}
		}
	}
	for n := range 40 {
		for _, r := range []string{"a", "ß", "日", "\U0001f600", "\xff", "\x00"} {
			s := strings.Repeat(r, n)
			if got, want := label.RightQueue(api.Queue{Name: s}), n >= 1 && n <= 8 && (r == "a" || r == "ß" || r == "日"); got != want {
				t.Errorf("%q: %v", s, got)
			}
		}
	}
}

func TestGetNoBlock(t *testing.T) { // P11.1
	none(t, "nil", nil)
	none(t, "no octets", []byte{})
	none(t, "64 noughts", make([]byte, 64))
	none(t, "64 octets of 255", bytes.Repeat([]byte{255}, 64))
	for _, whole := range [][]byte{laidQueue(queueOf("a", 5, 9, 258)), laidQueue(queueOf("日本語日本語日本", 4095, falling()...)), laidDir(dirOf(2)), laidDir(dirOf(rising(3056, 16)...))} {
		long := bytes.Repeat(whole, 2)
		for n := range long {
			if n != 64 {
				none(t, "the first ones alone", long[:n])
			}
		}
		none(t, "two blocks", long)
		none(t, "ahead of it", append([]byte{0}, whole...))
		none(t, "spare room that would fill it", whole[:63:64])
		none(t, "a body alone", whole[8:])
		for at := range whole {
			for by := 1; by < 256; by++ {
				b := bytes.Clone(whole)
				b[at] ^= byte(by)
				none(t, "an octet turned", b)
			}
		}
		for _, at := range []int{6, 7} { // the sum is right, but these two are noughts in a block
			rest := bytes.Clone(whole[4:])
			rest[at-4] = 1
			sum := crc32.Checksum(rest, crc32.MakeTable(crc32.Castagnoli))
			none(t, "no nought", append(binary.LittleEndian.AppendUint32(nil, sum), rest...))
		}
	}
}

func TestGetOtherKinds(t *testing.T) { // P11.1
	for kind := range 256 {
		for _, q := range []api.Queue{queueOf("a", 0, 2), queueOf("日本語日本語日本", 4095, falling()...)} {
			b := blockOf(kind, len(q.Name), queueBody(q))
			if kind == 5 {
				gotQueue(t, b, q)
			} else {
				none(t, "another kind", b)
			}
		}
		for _, d := range []api.Dir{dirOf(2), dirOf(rising(3056, 16)...)} {
			b := blockOf(kind, len(d.Queues), dirBody(d))
			if kind == 6 {
				gotDir(t, b, d)
			} else {
				none(t, "another kind", b)
			}
		}
		for tag := range 256 { // of no octets a queue has no name, and a directory the number 0
			none(t, "a body of noughts", blockOf(kind, tag, nil))
			none(t, "a body of octets of 255", blockOf(kind, tag, bytes.Repeat([]byte{255}, 56)))
		}
	}
}

func TestGetQueueTags(t *testing.T) { // P11.1: one octet of the name fewer or more, and all others
	for _, s := range rightNames() {
		for _, count := range []int{0, 5, 4095} {
			q := queueOf(s, count, falling()...)
			for tag := range 256 {
				if b := blockOf(5, tag, queueBody(q)); tag == len(s) {
					gotQueue(t, b, q)
				} else {
					none(t, "another tag", b)
				}
			}
		}
	}
	body := append(queueBody(queueOf("q", 0, 2))[:28], bytes.Repeat([]byte("a"), 28)...)
	for tag := range 256 { // letters to the end of the body
		none(t, "a name of letters", blockOf(5, tag, body))
	}
}

func TestGetDirTags(t *testing.T) { // P11.1: one number fewer or more, and all others
	for n := 1; n <= 16; n++ {
		d := dirOf(rising(3000, n)...)
		for tag := range 256 {
			if b := blockOf(6, tag, dirBody(d)); tag == n {
				gotDir(t, b, d)
			} else {
				none(t, "another tag", b)
			}
		}
	}
	for n := 17; n <= 28; n++ { // numbers that may be, to the end of the body, but too many of them
		for tag := range 256 {
			none(t, "too many", blockOf(6, tag, dirBody(dirOf(rising(2, n)...))))
		}
	}
}

func TestGetWrongQueues(t *testing.T) { // P11.1: blocks with the right sum of what isn't right
	for _, q := range wrongQueues() {
		if fits(q) {
			none(t, "a wrong queue's", laidQueue(q))
		}
	}
	for _, root := range []int{0, 1, 3072, 3073, 4095, 4096, 32767, 32768, 65535} {
		for at := range 12 {
			none(t, "a wrong root", laidQueue(queueOf("q", powers()[at], root)))
			none(t, "a wrong root", laidQueue(rooted(queueOf("q", 4095, falling()...), at, root)))
		}
	}
	for octet := 1; octet < 4; octet++ { // Counts of which the first octet alone may be
		for by := 1; by < 256; by++ {
			body := queueBody(queueOf("q", 5, 9, 258))
			body[octet] = byte(by)
			none(t, "a wrong Count", blockOf(5, 1, body))
		}
	}
}

// fits tells whether a queue's numbers and Name have room in a block, so that none is cut.
func fits(q api.Queue) bool {
	return len(q.Name) <= 28 && q.Count >= 0 && q.Count < 1<<32 && !slices.ContainsFunc(q.Roots[:], func(root int) bool { return root < 0 || root > 65535 })
}

func TestGetWrongDirs(t *testing.T) { // P11.1
	for _, d := range wrongDirs() {
		if len(d.Queues) <= 28 && !slices.ContainsFunc(d.Queues, func(at int) bool { return at < 0 || at > 65535 }) {
			none(t, "a wrong directory's", laidDir(d))
		}
	}
	for _, v := range []int{0, 1, 3072, 3073, 4095, 4096, 32767, 32768, 65535} {
		for n := 1; n <= 16; n++ {
			for at := range n {
				none(t, "a wrong number", laidDir(dirOf(with(rising(1001, n), at, v)...)))
			}
		}
	}
}

func TestGetBehindTheBody(t *testing.T) { // P11.1: each octet behind what is told, to each other one
	for _, q := range []api.Queue{queueOf("a", 0, 2), queueOf("a", 5, 9, 258), queueOf("abcdefgh", 4095, 2), queueOf("日本語日本語日本", 4095, falling()...)} {
		for at := len(queueBody(q)); at < 56; at++ {
			for by := 1; by < 256; by++ {
				body := append(queueBody(q), make([]byte, 56)...)[:56]
				body[at] = byte(by)
				none(t, "no nought behind the Name", blockOf(5, len(q.Name), body))
			}
		}
	}
	for n := 1; n <= 16; n++ {
		d := dirOf(rising(700, n)...)
		for at := 2 * n; at < 56; at++ {
			for by := 1; by < 256; by++ {
				body := append(dirBody(d), make([]byte, 56)...)[:56]
				body[at] = byte(by)
				none(t, "no nought behind the numbers", blockOf(6, n, body))
			}
		}
	}
}

// treesAre fails if those aren't the trees of these roots.
func treesAre(t *testing.T, r api.Roots, want ...int) {
	t.Helper()
	was := r
	if got := label.Trees(r); !slices.Equal(got, want) {
		t.Errorf("%v: %v, not %v", r, got, want)
	}
	if r != was {
		t.Errorf("%v: changed to %v", was, r)
	}
}

func TestTrees(t *testing.T) { // P11.2
	treesAre(t, api.Roots{})
	treesAre(t, api.Roots(falling()), falling()...)
	treesAre(t, api.Roots(slices.Repeat([]int{5}, 12)), slices.Repeat([]int{5}, 12)...) // alike ones, each of them
	treesAre(t, api.Roots{0: 7, 11: 7}, 7, 7)
	treesAre(t, api.Roots{1: 9, 2: 3, 10: 4}, 9, 3, 4) // in order of their places, not of their numbers
	treesAre(t, api.Roots{math.MinInt, -1, 0, 1, 3072, math.MaxInt, 0, 1 << 32, 1 << 16, -1 << 32}, math.MinInt, -1, 1, 3072, math.MaxInt, 1<<32, 1<<16, -1<<32)
	for at := range 12 {
		for _, root := range append(wrongNumbers(), rightNumbers()...) {
			treesAre(t, rooted(api.Queue{}, at, root).Roots, root)
			treesAre(t, rooted(queueOf("q", 4095, falling()...), at, root).Roots, with(falling(), at, root)...)
		}
		treesAre(t, rooted(queueOf("q", 4095, falling()...), at, 0).Roots, slices.Delete(falling(), at, at+1)...)
	}
	for count := range 4096 {
		q := queueOf("q", count, falling()...)
		n := 0
		for at := range 12 {
			if counted(count, at) {
				n++
			}
		}
		treesAre(t, q.Roots, falling()[:n]...)
	}
}

func TestQueueThereAndBack(t *testing.T) { // P11.3
	seen := map[string]api.Queue{}
	for _, q := range rightQueues() {
		b, ok := label.PutQueue(q)
		if !ok {
			t.Fatalf("%v: none", q)
		}
		gotQueue(t, b, q)
		p, _ := label.GetQueue(b)
		putQueue(t, p, b)
		if other, there := seen[string(b)]; there {
			t.Errorf("%v, %v: %x", q, other, b)
		}
		seen[string(b)] = q
	}
}

func TestDirThereAndBack(t *testing.T) { // P11.3
	seen := map[string]api.Dir{}
	for _, d := range rightDirs() {
		b, ok := label.PutDir(d)
		if !ok {
			t.Fatalf("%v: none", d)
		}
		gotDir(t, b, d)
		e, _ := label.GetDir(b)
		putDir(t, e, b)
		if other, there := seen[string(b)]; there && !slices.Equal(other.Queues, d.Queues) {
			t.Errorf("%v, %v: %x", d, other, b)
		}
		seen[string(b)] = d
	}
}

// octetsWithRoom is octets with room on both sides, all of it marked, and a copy of all.
func octetsWithRoom(b []byte) (inner, room, was []byte) {
	room = append(bytes.Repeat([]byte{170}, 8), b...)
	room = append(room, bytes.Repeat([]byte{170}, 100)...)
	return room[8 : 8+len(b)], room, bytes.Clone(room)
}

// numbersWithRoom is the same of a list.
func numbersWithRoom(list []int) (inner, room, was []int) {
	room = append(slices.Repeat([]int{1234}, 3), list...)
	room = append(room, slices.Repeat([]int{1234}, 40)...)
	return room[3 : 3+len(list)], room, slices.Clone(room)
}

func TestOctetsHandedInStay(t *testing.T) { // P11.3
	q, d := laidQueue(queueOf("日本語日本語日本", 4095, falling()...)), laidDir(dirOf(rising(3056, 16)...))
	for _, b := range [][]byte{nil, q, d, laidQueue(queueOf("a", 0, 2)), laidDir(dirOf(2)), blockOf(5, 23, q[8:]), blockOf(5, 255, q[8:]), blockOf(6, 15, d[8:]), blockOf(6, 255, d[8:]),
		blockOf(4, 24, q[8:]), laidQueue(queueOf("a b", 0, 2)), laidDir(dirOf(2, 2)), q[:63], d[8:], make([]byte, 64), make([]byte, 65)} {
		inner, room, was := octetsWithRoom(b)
		label.GetQueue(inner)
		label.GetDir(inner)
		if !bytes.Equal(room, was) {
			t.Errorf("%x: changed to %x", was, room)
		}
	}
}

func TestListsHandedInStay(t *testing.T) { // P11.3
	for _, d := range append(rightDirs(), wrongDirs()...) {
		inner, room, was := numbersWithRoom(d.Queues)
		label.RightDir(dirOf(inner...))
		label.PutDir(dirOf(inner...))
		if !slices.Equal(room, was) {
			t.Errorf("%v: changed to %v", was, room)
		}
	}
	for _, q := range append(rightQueues(), wrongQueues()...) {
		was := q
		label.RightQueue(q)
		b, _ := label.PutQueue(q)
		spoil(b)
		spoil(label.Trees(q.Roots))
		if q != was {
			t.Errorf("%v: changed to %v", was, q)
		}
	}
}

// spoil fills a list and its spare room.
func spoil[T byte | int](list []T) {
	list = list[:cap(list)]
	for i := range list {
		list[i] = 85
	}
}

func TestPutIsNew(t *testing.T) { // P11.3: changed neither with what was handed in nor with another answer
	for _, q := range rightQueues() {
		first, _ := label.PutQueue(q)
		second, _ := label.PutQueue(q)
		spoil(second)
		if !bytes.Equal(first, laidQueue(q)) {
			t.Errorf("%v: shared with an answer", q)
		}
		spoil(first)
		putQueue(t, q, laidQueue(q))
	}
	for _, d := range rightDirs() {
		want := laidDir(d)
		inner, room, was := numbersWithRoom(d.Queues)
		first, _ := label.PutDir(dirOf(inner...))
		second, _ := label.PutDir(dirOf(inner...))
		spoil(second)
		if !slices.Equal(room, was) || !bytes.Equal(first, want) {
			t.Errorf("%v: shared with an answer", d)
		}
		spoil(room)
		if !bytes.Equal(first, want) {
			t.Errorf("%v: the numbers were kept", d)
		}
		spoil(first)
		putDir(t, d, want)
	}
}

func TestGetQueueIsNew(t *testing.T) { // P11.3
	for _, q := range rightQueues() {
		inner, room, _ := octetsWithRoom(laidQueue(q))
		p, _ := label.GetQueue(inner)
		spoil(room)
		if p != q {
			t.Errorf("%v: the octets were kept: %v", q, p)
		}
		none(t, "spoilt", inner)
		gotQueue(t, laidQueue(q), q)
	}
}

func TestGetDirIsNew(t *testing.T) { // P11.3
	for _, d := range rightDirs() {
		inner, room, was := octetsWithRoom(laidDir(d))
		first, _ := label.GetDir(inner)
		second, _ := label.GetDir(inner)
		spoil(second.Queues)
		if !bytes.Equal(room, was) || !slices.Equal(first.Queues, d.Queues) {
			t.Errorf("%v: shared with an answer: %v", d, first)
		}
		spoil(room)
		if !slices.Equal(first.Queues, d.Queues) {
			t.Errorf("%v: the octets were kept: %v", d, first)
		}
		none(t, "spoilt", inner)
		gotDir(t, laidDir(d), d)
	}
}

func TestTreesAreNew(t *testing.T) { // P11.3
	for count := range 4096 {
		r := queueOf("q", count, falling()...).Roots
		first, second := label.Trees(r), label.Trees(r)
		want := slices.Clone(first)
		spoil(second)
		if !slices.Equal(first, want) {
			t.Errorf("%v: shared with an answer: %v", r, first)
		}
		spoil(first)
		treesAre(t, r, want...)
	}
}

// toldQueue is what the document's own words make of octets: the right queue whose block they are.
func toldQueue(b []byte) (api.Queue, bool) {
	if len(b) != 64 || b[5] > 28 {
		return api.Queue{}, false
	}
	q := api.Queue{Name: string(b[36 : 36+b[5]]), Count: int(binary.LittleEndian.Uint32(b[8:]))}
	for i := range q.Roots {
		q.Roots[i] = int(binary.LittleEndian.Uint16(b[12+2*i:]))
	}
	if !isQueue(q) || !bytes.Equal(b, laidQueue(q)) {
		return api.Queue{}, false
	}
	return q, true
}

// toldDir is the same of a directory.
func toldDir(b []byte) (api.Dir, bool) {
	if len(b) != 64 || b[5] > 28 {
		return api.Dir{}, false
	}
	var d api.Dir
	for i := range int(b[5]) {
		d.Queues = append(d.Queues, int(binary.LittleEndian.Uint16(b[8+2*i:])))
	}
	if !isDir(d) || !bytes.Equal(b, laidDir(d)) {
		return api.Dir{}, false
	}
	return d, true
}

// held fails if octets aren't told as the document's own words tell them.
func held(t *testing.T, b []byte) {
	t.Helper()
	if q, ok := toldQueue(b); ok {
		gotQueue(t, b, q)
	} else if d, ok := toldDir(b); ok {
		gotDir(t, b, d)
	} else {
		none(t, "by its words", b)
	}
}

// heldQueue fails if a queue isn't put as the document's own words tell it.
func heldQueue(t *testing.T, q api.Queue) {
	t.Helper()
	if isQueue(q) {
		putQueue(t, q, laidQueue(q))
	} else {
		notPutQueue(t, q)
	}
	held(t, laidQueue(q))
}

// heldDir fails if a directory isn't put as the document's own words tell it.
func heldDir(t *testing.T, d api.Dir) {
	t.Helper()
	if isDir(d) {
		putDir(t, d, laidDir(d))
	} else {
		notPutDir(t, d)
	}
	held(t, laidDir(d))
}

// drawnQueue is a queue that is often right.
func drawnQueue(r *rand.Rand) api.Queue {
	count := r.Intn(4096) & r.Intn(4096)
	var roots []int
	for range 12 {
		roots = append(roots, 2+r.Intn(3070))
	}
	names := rightNames()
	q := queueOf(names[r.Intn(len(names))], count, roots...)
	switch r.Intn(6) {
	case 0:
		q.Roots[r.Intn(12)] = r.Intn(3100) - 10
	case 1:
		q.Count ^= 1 << r.Intn(14)
	case 2:
		names = wrongNames()
		q.Name = names[r.Intn(len(names))]
	}
	return q
}

// drawnDir is a directory that is often right.
func drawnDir(r *rand.Rand) api.Dir {
	most := []int{3074, 3072, 40}[r.Intn(3)]
	var d api.Dir
	for range r.Intn(19) {
		d.Queues = append(d.Queues, min(2, r.Intn(60))+r.Intn(most))
	}
	return d
}

func TestModel(t *testing.T) { // P11.1, P11.3
	r := rand.New(rand.NewSource(11))
	for range 8000 {
		q, d := drawnQueue(r), drawnDir(r)
		heldQueue(t, q)
		heldDir(t, d)
		for _, x := range []struct {
			kind, tag int
			body      []byte
		}{{5, len(q.Name), queueBody(q)}, {6, len(d.Queues), dirBody(d)}} {
			body := append(x.body, make([]byte, 56)...)[:56]
			held(t, blockOf(5+r.Intn(2), r.Intn(30), body))
			body[r.Intn(56)] ^= byte(1 << r.Intn(8))
			held(t, blockOf(x.kind, x.tag, body))
		}
	}
}

func TestSealed(t *testing.T) { // P11.1: the octets are those of layer 7, the names those of layer 4
	for _, s := range append(rightNames(), wrongNames()...) {
		q := queueOf(s, 5, 9, 258)
		if right := name.Right(s); right != label.RightQueue(q) {
			t.Errorf("%.100q: %v", s, right)
		}
		if !name.Right(s) {
			continue
		}
		b, ok := block.Seal(api.KindQueue, len(s), queueBody(q))
		if !ok {
			t.Fatalf("%v: none", q)
		}
		putQueue(t, q, b)
		gotQueue(t, b, q)
	}
	for n := 1; n <= api.MaxQueues; n++ {
		d := dirOf(rising(500, n)...)
		b, ok := block.Seal(api.KindDir, n, dirBody(d))
		if !ok {
			t.Fatalf("%v: none", d)
		}
		putDir(t, d, b)
		gotDir(t, b, d)
	}
}

func FuzzLabel(f *testing.F) { // P11.1 to P11.3
	f.Add(5, 1, "a", 5, []byte{9, 0, 0, 0, 2, 1})
	f.Add(6, 16, "日本語日本語日本", 4095, bytes.Repeat([]byte{255, 11}, 16))
	f.Add(5, 29, "a b", -1, make([]byte, 56))
	f.Add(6, 28, "\xff", 4096, bytes.Repeat([]byte{255}, 56))
	f.Fuzz(func(t *testing.T, kind, tag int, s string, count int, rest []byte) {
		q, d := api.Queue{Name: s, Count: count}, api.Dir{}
		for i := 0; i+1 < len(rest); i += 2 {
			v := int(int16(binary.LittleEndian.Uint16(rest[i:])))
			d.Queues = append(d.Queues, v)
			if i < 24 {
				q.Roots[i/2] = v
			}
		}
		if b, ok := label.PutQueue(q); ok != isQueue(q) || ok && !bytes.Equal(b, laidQueue(q)) {
			t.Fatalf("%v: %x, %v", q, b, ok)
		}
		if b, ok := label.PutDir(d); ok != isDir(d) || ok && !bytes.Equal(b, laidDir(d)) {
			t.Fatalf("%v: %x, %v", d, b, ok)
		}
		held(t, rest)
		held(t, blockOf(kind, tag, rest))
		held(t, blockOf(5, len(s), queueBody(q)))
		held(t, blockOf(6, int(uint(tag)%30), rest))
	})
}
