package fate_test

import (
	"bytes"
	"encoding/binary"
	"math"
	"math/big"
	"math/rand"
	"reflect"
	"slices"
	"testing"

	"rickyard/api"
	"rickyard/fate"
	"rickyard/pmem"
)

// Values whose octets are all unlike, so that an octet out of its place shows.
const (
	one   = uint64(0x8877665544332211)
	two   = uint64(0xf1e2d3c4b5a69788)
	three = uint64(math.MaxUint64)
)

// word is what a word of a device is to be; sent counts only where it was flushed.
type word struct {
	lasts   uint64
	flushed bool
	sent    uint64
	stored  uint64
}

// Words of each kind: closed, stored alone, and sent, with what lasts, what was sent and what was stored alike and unlike in each way.
var (
	closed     = word{lasts: one, stored: one}
	storedOnly = word{lasts: one, stored: two}
	allAlike   = word{lasts: one, flushed: true, sent: one, stored: one}
	sentLasts  = word{lasts: one, flushed: true, sent: one, stored: two}
	backAgain  = word{lasts: one, flushed: true, sent: two, stored: one}
	sentStored = word{lasts: one, flushed: true, sent: two, stored: two}
	allUnlike  = word{lasts: one, flushed: true, sent: two, stored: three}
)

// octets are those of words.
func octets(ws ...uint64) []byte {
	out := []byte{}
	for _, w := range ws {
		out = binary.LittleEndian.AppendUint64(out, w)
	}
	return out
}

// done fails if a call wasn't done.
func done(t testing.TB, es ...api.Errno) {
	t.Helper()
	for i, e := range es {
		if e != api.OK {
			t.Fatalf("call %d: %v", i, e)
		}
	}
}

// made is a device of noughts.
func made(t testing.TB, lines int) *pmem.Device {
	t.Helper()
	d, e := pmem.New(lines)
	done(t, e)
	return d
}

// filled are words of whole lines, with noughts behind them.
func filled(words []word) []word {
	words = slices.Clone(words)
	for len(words)%8 != 0 {
		words = append(words, word{})
	}
	return words
}

// lasting is the image of what lasts of words.
func lasting(words []word) []byte {
	out := []byte{}
	for _, w := range words {
		out = append(out, octets(w.lasts)...)
	}
	return out
}

// send makes the words of a line sent that are to be, and no others: those are evicted behind the flush.
func send(t testing.TB, d *pmem.Device, line int, words []word) {
	t.Helper()
	for i, w := range words {
		if w.flushed {
			done(t, d.Store(8*line+i, w.sent))
		}
	}
	done(t, d.Flush(line))
	for i, w := range words {
		if !w.flushed {
			d.Plan(8*line + i)
			done(t, d.Store(8*line+i, w.lasts))
			d.Plan()
		}
	}
}

// built is a device of such words.
func built(t testing.TB, words ...word) *pmem.Device {
	t.Helper()
	words = filled(words)
	d := pmem.From(lasting(words))
	for line := range len(words) / 8 {
		own := words[8*line : 8*line+8]
		if slices.ContainsFunc(own, func(w word) bool { return w.flushed }) {
			send(t, d, line, own)
		}
	}
	var want []api.Fate
	for at, w := range words {
		done(t, d.Store(at, w.stored))
		if w.open() {
			want = append(want, w.fate(at))
		}
	}
	if got := d.Fates(); !slices.Equal(got, want) {
		t.Fatalf("open: %v, not %v", got, want)
	}
	return d
}

func (w word) open() bool { return w.flushed || w.stored != w.lasts }

func (w word) fate(at int) api.Fate {
	f := api.Fate{At: at, Lasts: w.lasts, Stored: w.stored}
	if w.flushed {
		f.Flushed, f.Sent = true, w.sent
	}
	return f
}

// times is a word, as often as asked for.
func times(n int, w word) []word { return slices.Repeat([]word{w}, n) }

// leave is what each number leaves of a word, by the words of layer 5.
func (w word) leave() [3]uint64 {
	out := [3]uint64{w.lasts, w.lasts, w.stored}
	if w.flushed {
		out[1] = w.sent
	}
	return out
}

func TestValues(t *testing.T) { // P6.1
	for i, c := range []struct {
		w    word
		want []uint64
	}{
		{closed, []uint64{one}},
		{storedOnly, []uint64{one, two}},
		{allAlike, []uint64{one}},
		{sentLasts, []uint64{one, two}},
		{backAgain, []uint64{one, two}},
		{sentStored, []uint64{one, two}},
		{allUnlike, []uint64{one, two, three}},
		{word{three, true, two, one}, []uint64{three, two, one}},
		{word{2, true, 0, 1}, []uint64{2, 0, 1}},
		{word{0, true, three, 0}, []uint64{0, three}},
		{word{}, []uint64{0}},
		{word{flushed: true}, []uint64{0}},
		{word{7, false, 0, 5}, []uint64{7, 5}},
	} {
		if got := fate.Values(c.w.fate(i)); !slices.Equal(got, c.want) {
			t.Errorf("%v: %x", c.w, got)
		}
	}
}

func TestValuesOfNoDevices(t *testing.T) { // P6.1: whatever stands in Sent, it counts only if it was sent; At never does
	for _, at := range []int{math.MinInt, -1, 0, 1, 1 << 40, math.MaxInt} {
		for _, c := range []struct {
			f    api.Fate
			want []uint64
		}{
			{api.Fate{At: at, Lasts: 1, Sent: 2, Stored: 3}, []uint64{1, 3}},
			{api.Fate{At: at, Lasts: 1, Sent: 2, Stored: 1}, []uint64{1}},
			{api.Fate{At: at, Lasts: 1, Sent: 2, Stored: 2}, []uint64{1, 2}},
			{api.Fate{At: at, Lasts: 1, Flushed: true, Sent: 1, Stored: 1}, []uint64{1}},
			{api.Fate{At: at, Lasts: 1, Flushed: true, Sent: 2, Stored: 3}, []uint64{1, 2, 3}},
			{api.Fate{At: at}, []uint64{0}},
		} {
			if got := fate.Values(c.f); !slices.Equal(got, c.want) {
				t.Errorf("%v: %x", c.f, got)
			}
		}
	}
}

func TestValuesAreNew(t *testing.T) { // P6.4
	f := allUnlike.fate(3)
	first := fate.Values(f)
	_ = append(first[:1], 9, 9, 9)
	for i := range first {
		first[i] = 9
	}
	if got := fate.Values(f); !slices.Equal(got, []uint64{one, two, three}) {
		t.Errorf("%x", got)
	}
}

func TestExample(t *testing.T) { // P6.1 to P6.4: the chapter's
	d := made(t, 1)
	done(t, d.Store(0, 5), d.Flush(0), d.Store(0, 6))
	if n := fate.Count(d); n != 3 {
		t.Errorf("%d images", n)
	}
	want := [][]byte{make([]byte, 64), append([]byte{5}, make([]byte, 63)...), append([]byte{6}, make([]byte, 63)...)}
	if got := fate.All(d, 3); !reflect.DeepEqual(got, want) {
		t.Errorf("%x", got)
	}
	for i, image := range want {
		l, ok := fate.Choose(d, image)
		if !ok || !slices.Equal(l, []int{i, 0, 0, 0, 0, 0, 0, 0}) || !fate.May(d, image) {
			t.Errorf("image %d: %v, %v", i, l, ok)
		}
	}
	d.Crash(2, 0, 0, 0, 0, 0, 0, 0)
	if !bytes.Equal(d.Image(), want[2]) {
		t.Errorf("%x", d.Image())
	}
}

func TestCount(t *testing.T) { // P6.1
	both := func(a, b []word) []word { return append(slices.Clone(a), b...) }
	for i, c := range []struct {
		words []word
		want  int
	}{
		{nil, 1},
		{times(8, closed), 1},
		{times(80, allAlike), 1},
		{times(1, storedOnly), 2},
		{times(1, sentLasts), 2},
		{times(1, backAgain), 2},
		{times(1, sentStored), 2},
		{times(1, allUnlike), 3},
		{[]word{allUnlike, storedOnly, allAlike, backAgain, closed, allUnlike}, 36},
		{times(39, storedOnly), 1 << 39},
		{times(40, storedOnly), 1 << 40},
		{times(41, storedOnly), 1 << 40},
		{times(39, sentStored), 1 << 39},
		{times(40, sentStored), 1 << 40},
		{times(25, allUnlike), 847288609443},
		{times(26, allUnlike), 1 << 40},
		{both(times(38, storedOnly), times(1, allUnlike)), 3 << 38},
		{both(times(39, storedOnly), times(1, allUnlike)), 1 << 40},
		{both(times(1, allUnlike), times(38, backAgain)), 3 << 38},
		{both(times(1, allUnlike), times(39, backAgain)), 1 << 40},
		{both(times(40, storedOnly), times(100, allAlike)), 1 << 40},
		{both(times(100, allAlike), times(39, storedOnly)), 1 << 39},
		{times(62, storedOnly), 1 << 40},
		{times(63, storedOnly), 1 << 40},
		{times(64, storedOnly), 1 << 40},
		{times(65, storedOnly), 1 << 40},
		{times(127, allUnlike), 1 << 40},
		{times(8*api.MaxLines, allUnlike), 1 << 40},
	} {
		if got := fate.Count(built(t, c.words...)); got != c.want || api.MaxFates != 1<<40 {
			t.Errorf("case %d: %d, not %d", i, got, c.want)
		}
	}
}

func TestNilDevice(t *testing.T) { // P6.4
	if n := fate.Count(nil); n != 0 {
		t.Errorf("%d images", n)
	}
	for _, image := range [][]byte{nil, {}, {0}, make([]byte, 64)} {
		l, ok := fate.Choose(nil, image)
		if ok || len(l) != 0 || fate.May(nil, image) {
			t.Errorf("%d octets: %v, %v", len(image), l, ok)
		}
	}
	for _, most := range []int{math.MinInt, -1, 0, 1, 64, math.MaxInt} {
		if got := fate.All(nil, most); len(got) != 0 {
			t.Errorf("most %d: %x", most, got)
		}
	}
}

func TestWithoutWords(t *testing.T) { // P6.1 to P6.3: one image, of no octets
	for _, d := range []*pmem.Device{made(t, 0), pmem.From(nil), pmem.From(make([]byte, 63))} {
		if fate.Count(d) != 1 {
			t.Errorf("%d images", fate.Count(d))
		}
		for _, image := range [][]byte{nil, {}} {
			if l, ok := fate.Choose(d, image); !ok || len(l) != 0 || !fate.May(d, image) {
				t.Errorf("%v, %v", l, ok)
			}
		}
		for _, image := range [][]byte{{0}, make([]byte, 8), make([]byte, 64)} {
			if l, ok := fate.Choose(d, image); ok || len(l) != 0 || fate.May(d, image) {
				t.Errorf("%d octets: %v, %v", len(image), l, ok)
			}
		}
		for _, most := range []int{1, 2, 64, math.MaxInt} {
			if got := fate.All(d, most); len(got) != 1 || len(got[0]) != 0 {
				t.Errorf("most %d: %x", most, got)
			}
		}
		for _, most := range []int{0, -1, math.MinInt} {
			if got := fate.All(d, most); len(got) != 0 {
				t.Errorf("most %d: %x", most, got)
			}
		}
	}
}

func TestWithoutOpenWords(t *testing.T) { // P6.1 to P6.3: one image, what lasts
	d := built(t, times(16, closed)...)
	image := d.Image()
	if l, ok := fate.Choose(d, image); !ok || len(l) != 0 || !fate.May(d, image) || fate.Count(d) != 1 {
		t.Errorf("%v, %v, %d images", l, ok, fate.Count(d))
	}
	if got := fate.All(d, 1); len(got) != 1 || !bytes.Equal(got[0], image) {
		t.Errorf("%x", got)
	}
	for i := range image {
		image[i] ^= 1
		if l, ok := fate.Choose(d, image); ok || len(l) != 0 || fate.May(d, image) {
			t.Errorf("octet %d: %v, %v", i, l, ok)
		}
		image[i] ^= 1
	}
}

func TestLeastChoice(t *testing.T) { // P6.2: where two numbers leave the same word
	for i, c := range []struct {
		w    word
		left uint64
		want int // -1: it may not be left
	}{
		{storedOnly, one, 0}, {storedOnly, two, 2}, {storedOnly, 0, -1}, {storedOnly, three, -1},
		{allAlike, one, 0}, {allAlike, two, -1}, {allAlike, 0, -1},
		{sentLasts, one, 0}, {sentLasts, two, 2}, {sentLasts, three, -1},
		{backAgain, one, 0}, {backAgain, two, 1}, {backAgain, three, -1},
		{sentStored, one, 0}, {sentStored, two, 1}, {sentStored, three, -1},
		{allUnlike, one, 0}, {allUnlike, two, 1}, {allUnlike, three, 2}, {allUnlike, 0, -1}, {allUnlike, one ^ 1<<63, -1}, {allUnlike, two ^ 1, -1},
		{word{7, false, 0, 5}, 0, -1}, // nothing was sent: the 0 of Sent may not last
		{word{7, false, 0, 0}, 0, 2},
		{word{7, true, 0, 5}, 0, 1},
		{word{7, true, 0, 0}, 0, 1},
		{word{7, true, 7, 0}, 0, 2},
		{word{0, true, 0, 7}, 0, 0},
		{word{0, true, 7, 0}, 0, 0},
		{word{0, false, 0, 7}, 0, 0},
	} {
		for at := range 16 {
			words := times(16, closed)
			words[at] = c.w
			d := built(t, words...)
			image := d.Image()
			copy(image[8*at:], octets(c.left))
			l, ok := fate.Choose(d, image)
			if c.want < 0 {
				if ok || len(l) != 0 || fate.May(d, image) {
					t.Errorf("case %d in word %d: %v, %v", i, at, l, ok)
				}
			} else if !ok || !slices.Equal(l, []int{c.want}) || !fate.May(d, image) {
				t.Errorf("case %d in word %d: %v, %v", i, at, l, ok)
			}
		}
	}
}

func TestChooseIsOfOpenWordsInOrder(t *testing.T) { // P6.2
	d := built(t, closed, allUnlike, closed, closed, storedOnly, closed, closed, allUnlike, closed, backAgain, allUnlike)
	image := octets(one, three, one, one, one, one, one, two, one, two, three, 0, 0, 0, 0, 0)
	if l, ok := fate.Choose(d, image); !ok || !slices.Equal(l, []int{2, 0, 1, 1, 2}) {
		t.Errorf("%v, %v", l, ok)
	}
	copy(image[32:], octets(two))
	copy(image[56:], octets(one))
	if l, ok := fate.Choose(d, image); !ok || !slices.Equal(l, []int{2, 2, 0, 1, 2}) {
		t.Errorf("%v, %v", l, ok)
	}
}

func TestImagesOfOtherLengths(t *testing.T) { // P6.2
	d := built(t, times(16, allUnlike)...)
	whole := append(d.Image(), d.Image()...)
	for n := range len(whole) + 1 {
		l, ok := fate.Choose(d, whole[:n])
		if want := n == 128; ok != want || fate.May(d, whole[:n]) != want || !want && len(l) != 0 || want && len(l) != 16 {
			t.Errorf("%d octets: %v, %v", n, l, ok)
		}
	}
	for _, image := range [][]byte{nil, {}} {
		if l, ok := fate.Choose(d, image); ok || len(l) != 0 || fate.May(d, image) {
			t.Errorf("none: %v, %v", l, ok)
		}
	}
}

func TestImagesThatDifferInAnOctet(t *testing.T) { // P6.2: in a word that is open, and in one that isn't
	d := built(t, closed, allUnlike, closed, storedOnly, allAlike, closed, word{}, backAgain, closed, closed, closed, closed, closed, closed, closed, sentStored)
	for _, image := range fate.All(d, 64) {
		if !fate.May(d, image) {
			t.Fatalf("%x", image)
		}
		for i := range image {
			for _, x := range []byte{1, 0x80} { // no two of the values are that near
				image[i] ^= x
				if l, ok := fate.Choose(d, image); ok || len(l) != 0 || fate.May(d, image) {
					t.Errorf("octet %d: %v, %v", i, l, ok)
				}
				image[i] ^= x
			}
		}
	}
}

func TestAllInOrder(t *testing.T) { // P6.3: the first open word counts most, values by their places
	d := built(t, closed, word{9, true, 4, 1}, allAlike, storedOnly, word{3, true, 5, 3})
	var want [][]byte
	for _, a := range []uint64{9, 4, 1} {
		for _, b := range []uint64{one, two} {
			for _, c := range []uint64{3, 5} {
				want = append(want, octets(one, a, one, b, c, 0, 0, 0))
			}
		}
	}
	for _, most := range []int{12, 13, 64, 65, math.MaxInt} {
		if got := fate.All(d, most); !reflect.DeepEqual(got, want) {
			t.Errorf("most %d: %x", most, got)
		}
	}
	for _, most := range []int{11, 1, 0, -1, -12, math.MinInt, math.MinInt + 1} {
		if got := fate.All(d, most); len(got) != 0 {
			t.Errorf("most %d: %d images", most, len(got))
		}
	}
}

func TestAllUpTo64(t *testing.T) { // P6.3: no device leaves just 65 (factors are 2 and 3), so 72 stand for more than 64
	for twos := range 8 {
		for threes := range 5 {
			words := append(times(twos, storedOnly), times(threes, allUnlike)...)
			d := built(t, append(words, times(20, allAlike)...)...)
			n := 1 << twos
			for range threes {
				n *= 3
			}
			if got := fate.Count(d); got != n {
				t.Fatalf("%d images, not %d", got, n)
			}
			for _, most := range []int{math.MinInt, -1, 0, 1, n - 1, n, n + 1, 63, 64, 65, 72, 1 << 40, 1 << 62, math.MaxInt} {
				want := n
				if n > most || n > 64 {
					want = 0
				}
				if got := fate.All(d, most); len(got) != want {
					t.Errorf("%d of at most %d: %d", n, most, len(got))
				}
			}
		}
	}
}

func TestAllOfVeryMany(t *testing.T) { // P6.3: as many as Count tells no more
	for _, n := range []int{7, 8, 39, 40, 41, 62, 63, 64, 65, 128} {
		if got := fate.All(built(t, times(n, storedOnly)...), math.MaxInt); len(got) != 0 {
			t.Fatalf("%d words: %d images", n, len(got)) // ahead of those that no memory holds
		}
	}
}

func TestGreatestDevice(t *testing.T) { // P6.1 to P6.4: every word is open, few of them may be another one
	words := times(8*api.MaxLines, allAlike)
	for _, at := range []int{0, 1, 12345, 20000, 8*api.MaxLines - 2, 8*api.MaxLines - 1} {
		words[at] = storedOnly
	}
	d := built(t, words...)
	all := fate.All(d, 64)
	if len(all) != 64 || fate.Count(d) != 64 {
		t.Fatalf("%d images, %d told", fate.Count(d), len(all))
	}
	for _, i := range []int{0, 1, 32, 63} {
		l, ok := fate.Choose(d, all[i])
		if !ok || len(l) != 8*api.MaxLines || l[0] != i/32*2 || l[8*api.MaxLines-1] != i%2*2 {
			t.Errorf("image %d", i)
		}
		c := built(t, words...)
		c.Crash(l...)
		if !bytes.Equal(c.Image(), all[i]) {
			t.Errorf("image %d isn't left", i)
		}
	}
}

// everything is all that a device tells without a change, but what it is armed with and its plan.
type everything struct {
	image, view  []byte
	fates        []api.Fate
	steps, lines int
	up           bool
}

func told(d *pmem.Device) everything {
	return everything{d.Image(), d.View(), d.Fates(), d.Steps(), d.Lines(), d.Up()}
}

// ask asks all there is to ask of a device, rightly and wrongly.
func ask(d *pmem.Device) {
	fate.Count(d)
	for _, most := range []int{-1, 0, 64, math.MaxInt} {
		for _, image := range append(fate.All(d, most), nil, make([]byte, 64), d.View()) {
			fate.Choose(d, image)
			fate.May(d, image)
		}
	}
	for _, f := range d.Fates() {
		fate.Values(f)
	}
}

func TestDeviceStaysAsItIs(t *testing.T) { // P6.4: its power and its plan, too
	d := built(t, allUnlike, storedOnly, closed, backAgain)
	d.Plan(-1, 1)
	d.Arm(3)
	before := told(d)
	ask(d)
	if got := told(d); !reflect.DeepEqual(got, before) {
		t.Errorf("%v, not %v", got, before)
	}
	done(t, d.Store(7, 1))
	ask(d)
	if n := fate.Count(d); n != 3*2*2*2 {
		t.Errorf("%d images", n)
	}
	done(t, d.Store(7, 1)) // word 1 is evicted
	ask(d)
	if n := fate.Count(d); n != 3*2*2 || !d.Up() {
		t.Errorf("%d images, up %v", n, d.Up())
	}
	done(t, d.Store(7, 0))
	ask(d)
	if n := fate.Count(d); n != 3*2 || d.Up() {
		t.Errorf("%d images, up %v", n, d.Up())
	}
}

func TestWithoutPower(t *testing.T) { // P6.1 to P6.3: the same
	words := []word{allUnlike, storedOnly, closed, backAgain}
	d, off := built(t, words...), built(t, words...)
	off.Arm(0)
	all := fate.All(d, 64)
	if fate.Count(off) != 12 || !reflect.DeepEqual(fate.All(off, 12), all) {
		t.Errorf("%d images", fate.Count(off))
	}
	for i, image := range all {
		a, ok := fate.Choose(d, image)
		if b, also := fate.Choose(off, image); !ok || !also || !slices.Equal(a, b) || !fate.May(off, image) {
			t.Errorf("image %d: %v, %v", i, a, b)
		}
	}
	if off.Up() {
		t.Error("up")
	}
}

func TestImagesAreNew(t *testing.T) { // P6.4: they share nothing with the device, nor with each other
	for _, words := range [][]word{times(8, closed), {allUnlike, closed, storedOnly}, times(6, storedOnly), times(40, allAlike)} {
		d := built(t, words...)
		before := told(d)
		all, want := fate.All(d, 64), fate.All(d, 64)
		for i := range all {
			for j := range all[i] {
				all[i][j] = ^all[i][j]
			}
			_ = append(all[i], slices.Repeat([]byte{0xa5}, 300)...)
			if !reflect.DeepEqual(all[i+1:], want[i+1:]) {
				t.Fatalf("image %d is another's", i)
			}
		}
		for i := range all {
			for j := range all[i] {
				if all[i][j] != ^want[i][j] {
					t.Fatalf("image %d is another's", i)
				}
			}
		}
		if !reflect.DeepEqual(told(d), before) || !reflect.DeepEqual(fate.All(d, 64), want) {
			t.Error("the device's own")
		}
	}
}

func TestChoicesAreNew(t *testing.T) { // P6.4
	d := built(t, times(16, allUnlike)...)
	image := d.View()
	l, _ := fate.Choose(d, image)
	for i := range l {
		l[i] = 99
	}
	_ = append(l, 99)
	if got, ok := fate.Choose(d, image); !ok || !slices.Equal(got, slices.Repeat([]int{2}, 16)) {
		t.Errorf("%v, %v", got, ok)
	}
}

func TestImageIsNeitherChangedNorKept(t *testing.T) { // P6.4
	d := built(t, allUnlike, storedOnly)
	whole := append(d.View(), 7, 7, 7, 7, 7, 7, 7, 7)
	before := slices.Clone(whole)
	image := whole[:64]
	l, ok := fate.Choose(d, image)
	fate.May(d, image)
	fate.Choose(d, whole)
	if !bytes.Equal(whole, before) {
		t.Errorf("changed: %x", whole)
	}
	clear(whole)
	want := built(t, allUnlike, storedOnly)
	if !ok || !slices.Equal(l, []int{2, 2}) || !reflect.DeepEqual(told(d), told(want)) || fate.May(d, image) {
		t.Errorf("kept: %v, %v", l, ok)
	}
}

// count is how many images words leave: unlike values of each, multiplied without bound.
func count(words []word) int {
	n := big.NewInt(1)
	for _, w := range words {
		unlike := map[uint64]int{}
		for _, v := range w.leave() {
			unlike[v]++
		}
		n.Mul(n, big.NewInt(int64(len(unlike))))
	}
	if n.BitLen() > 40 {
		return 1 << 40
	}
	return int(n.Int64())
}

// images are those that words leave, behind the octets ahead of them: by each number of each word, what was left already aside.
func images(words []word, ahead []byte) [][]byte {
	if len(words) == 0 {
		return [][]byte{ahead}
	}
	var out [][]byte
	for i, v := range words[0].leave() {
		if l := words[0].leave(); !slices.Contains(l[:i], v) {
			out = append(out, images(words[1:], slices.Concat(ahead, octets(v)))...)
		}
	}
	return out
}

// choices are the least numbers that leave an image of words, by trying each.
func choices(words []word, image []byte) ([]int, bool) {
	if len(image) != 8*len(words) {
		return nil, false
	}
	var out []int
	for at, w := range words {
		l := w.leave()
		n := slices.Index(l[:], binary.LittleEndian.Uint64(image[8*at:]))
		if n < 0 {
			return nil, false
		}
		if w.open() {
			out = append(out, n)
		}
	}
	return out, true
}

// near is an image that words leave, or one not far from it.
func near(r *rand.Rand, words []word) []byte {
	var out []byte
	for _, w := range words {
		l := w.leave()
		out = append(out, octets(l[r.Intn(3)])...)
	}
	switch r.Intn(8) {
	case 0:
		return out[:r.Intn(len(out)+1)]
	case 1:
		return append(out, make([]byte, 8*r.Intn(9))...)
	case 2, 3:
		if len(out) > 0 {
			out[r.Intn(len(out))] = byte(r.Intn(5))
		}
	}
	return out
}

// sameAsModel fails if a device of such words isn't told as the document's words say.
func sameAsModel(t *testing.T, r *rand.Rand, words []word) {
	t.Helper()
	words = filled(words)
	d := built(t, words...)
	before, n := told(d), count(words)
	if got := fate.Count(d); got != n {
		t.Fatalf("%v: %d images, not %d", words, got, n)
	}
	most := r.Intn(100) - 3
	var want [][]byte
	if n <= 64 && n <= most {
		want = images(words, []byte{})
	}
	if got := fate.All(d, most); len(got) != len(want) || len(want) > 0 && !reflect.DeepEqual(got, want) {
		t.Fatalf("%v: %x, not %x", words, got, want)
	}
	for range 8 {
		image := near(r, words)
		l, ok := choices(words, image)
		got, also := fate.Choose(d, image)
		if ok != also || !slices.Equal(l, got) || fate.May(d, image) != ok {
			t.Fatalf("%v: %x: %v, %v, not %v, %v", words, image, got, also, l, ok)
		}
		if c := built(t, words...); ok {
			c.Crash(l...)
			if !bytes.Equal(c.Image(), image) {
				t.Fatalf("%v: %v leaves %x, not %x", words, l, c.Image(), image)
			}
		}
	}
	if !reflect.DeepEqual(told(d), before) {
		t.Fatalf("%v: changed", words)
	}
}

// wordsOf are what octets say, three values in all, so that many are alike.
func wordsOf(b []byte) []word {
	values := [3]uint64{0, 1, one}
	var out []word
	for _, x := range b {
		w := word{lasts: values[x%3], stored: values[x%3]}
		if x/3%4 > 1 { // else it is closed
			w = word{values[x%3], x/12%2 == 1, values[x/24%3], values[x/72%3]}
		}
		out = append(out, w)
	}
	return out
}

func TestModel(t *testing.T) { // P6.1 to P6.4
	for i := range 4000 {
		r := rand.New(rand.NewSource(int64(i)))
		b := make([]byte, r.Intn(12))
		if i%10 == 0 {
			b = make([]byte, r.Intn(140))
		}
		r.Read(b)
		sameAsModel(t, r, wordsOf(b))
	}
}

func TestWhateverCrashLeavesMayBeLeft(t *testing.T) { // P6.4
	for i := range 1500 {
		r := rand.New(rand.NewSource(int64(i)))
		b := make([]byte, r.Intn(40))
		r.Read(b)
		words := wordsOf(b)
		d, crashed := built(t, words...), built(t, words...)
		l := make([]int, r.Intn(50))
		for j := range l {
			l[j] = int(r.Uint64())
		}
		crashed.Crash(l...)
		image := crashed.Image()
		least, ok := fate.Choose(d, image)
		if !ok || !fate.May(d, image) || len(least) != len(d.Fates()) {
			t.Fatalf("%v: %v leaves what may not be left", words, l)
		}
		for j, n := range least {
			if j < len(l) && n > (l[j]%3+3)%3 || j >= len(l) && n != 0 {
				t.Fatalf("%v: %d of word %d isn't the least", words, n, j)
			}
		}
		d.Crash(least...)
		if !bytes.Equal(d.Image(), image) {
			t.Fatalf("%v: %v leaves another image", words, least)
		}
		if all := fate.All(d, 1); len(all) != 1 || !bytes.Equal(all[0], image) {
			t.Fatalf("%v: open behind the crash", words)
		}
	}
}

func TestAllCrashesOfADevice(t *testing.T) { // P6.1 to P6.4: every number of every open word
	for _, words := range [][]word{{allUnlike}, {closed, storedOnly, closed, allUnlike, backAgain}, {sentStored, sentLasts, allAlike, storedOnly}} {
		open := len(built(t, words...).Fates())
		total := 1
		for range open {
			total *= 3
		}
		left := map[string]int{}
		for n := range total {
			l := make([]int, open)
			for i, rest := 0, n; i < open; i, rest = i+1, rest/3 {
				l[i] = rest % 3
			}
			d := built(t, words...)
			d.Crash(l...)
			left[string(d.Image())]++
		}
		d := built(t, words...)
		all := fate.All(d, 64)
		if len(all) != len(left) || fate.Count(d) != len(left) {
			t.Errorf("%v: %d images, %d told, not %d", words, fate.Count(d), len(all), len(left))
		}
		for _, image := range all {
			if left[string(image)] == 0 {
				t.Errorf("%v: %x is never left", words, image)
			}
		}
		for image := range left {
			if !fate.May(d, []byte(image)) {
				t.Errorf("%v: %x is left", words, image)
			}
		}
	}
}

func TestDoneTwice(t *testing.T) { // what is asked twice is alike
	for i := range 100 {
		b := make([]byte, 9)
		rand.New(rand.NewSource(int64(i))).Read(b)
		x, y := built(t, wordsOf(b)...), built(t, wordsOf(b)...)
		for range 2 {
			a, ok := fate.Choose(x, x.View())
			c, also := fate.Choose(y, y.View())
			if !reflect.DeepEqual(fate.All(x, 64), fate.All(y, 64)) || fate.Count(x) != fate.Count(y) || ok != also || !slices.Equal(a, c) {
				t.Fatalf("%v", b)
			}
		}
	}
}

func FuzzFates(f *testing.F) { // P6.1 to P6.4: any words of a device
	r := rand.New(rand.NewSource(6))
	for n := range 6 {
		b := make([]byte, 5*n)
		r.Read(b)
		f.Add(int64(n), b)
	}
	f.Fuzz(func(t *testing.T, seed int64, b []byte) {
		if len(b) < 1<<9 {
			sameAsModel(t, rand.New(rand.NewSource(seed)), wordsOf(b))
		}
	})
}

func FuzzImages(f *testing.F) { // P6.2: any octets as an image, any numbers as a fate
	f.Add([]byte{1, 2, 3}, make([]byte, 64), 1, uint64(2), uint64(3), uint64(4), true)
	f.Fuzz(func(t *testing.T, b, image []byte, at int, lasts, sent, stored uint64, flushed bool) {
		if len(b) >= 1<<9 {
			return
		}
		words := filled(wordsOf(b))
		d := built(t, words...)
		l, ok := choices(words, image)
		if got, also := fate.Choose(d, image); ok != also || !slices.Equal(l, got) || fate.May(d, image) != ok {
			t.Fatalf("%v, %v, not %v, %v", got, also, l, ok)
		}
		w := word{lasts, flushed, sent, stored}
		var want []uint64
		for _, v := range w.leave() {
			if !slices.Contains(want, v) {
				want = append(want, v)
			}
		}
		if got := fate.Values(api.Fate{At: at, Lasts: lasts, Flushed: flushed, Sent: sent, Stored: stored}); !slices.Equal(got, want) {
			t.Fatalf("%x, not %x", got, want)
		}
	})
}
