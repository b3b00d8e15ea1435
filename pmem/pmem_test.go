package pmem_test

import (
	"bytes"
	"encoding/binary"
	"math"
	"math/rand"
	"reflect"
	"slices"
	"testing"

	"rickyard/api"
	"rickyard/pmem"
)

// Numbers of words and lines that no device has.
var nowhere = []int{math.MinInt, math.MinInt + 1, -1 << 61, -1 << 60, -1 << 32, -9, -8, -1, 8 * api.MaxLines, 1 << 32, 1 << 60, 1 << 61, 1<<61 + 1, 1 << 62, math.MaxInt - 7, math.MaxInt - 1, math.MaxInt}

// Words whose octets are all unlike, so that an octet out of its place shows.
const (
	one   = uint64(0x8877665544332211)
	two   = uint64(0xf1e2d3c4b5a69788)
	three = uint64(math.MaxUint64)
)

// made is a device of noughts.
func made(t testing.TB, lines int) *pmem.Device {
	t.Helper()
	d, e := pmem.New(lines)
	if e != api.OK || d == nil {
		t.Fatalf("%d lines: %v", lines, e)
	}
	return d
}

// done fails if a call wasn't done.
func done(t testing.TB, es ...api.Errno) {
	t.Helper()
	for i, e := range es {
		if e != api.OK {
			t.Fatalf("call %d: %v", i, e)
		}
	}
}

// loaded fails if a word isn't that.
func loaded(t testing.TB, d *pmem.Device, at int, want uint64) {
	t.Helper()
	if got, e := d.Load(at); e != api.OK || got != want {
		t.Errorf("word %d: %x, %v, not %x", at, got, e, want)
	}
}

// octets are those of words.
func octets(ws ...uint64) []byte {
	out := []byte{}
	for _, w := range ws {
		out = binary.LittleEndian.AppendUint64(out, w)
	}
	return out
}

// lasting is the word of an image.
func lasting(d *pmem.Device, at int) uint64 {
	return binary.LittleEndian.Uint64(d.Image()[8*at:])
}

// mixed are octets that are unlike, as many as asked for.
func mixed(n int) []byte {
	out := make([]byte, n)
	r := rand.New(rand.NewSource(int64(n)))
	for i := range out {
		out[i] = byte(r.Intn(256))
	}
	return out
}

// fresh fails if a device isn't as one that was just made of that image.
func fresh(t *testing.T, d *pmem.Device, image []byte) {
	t.Helper()
	lines := len(image) / 64
	if d.Lines() != lines || !d.Up() || d.Steps() != 0 || len(d.Fates()) != 0 {
		t.Fatalf("%d lines, not %d; up %v, %d steps, open: %v", d.Lines(), lines, d.Up(), d.Steps(), d.Fates())
	}
	if !bytes.Equal(d.Image(), image) || !bytes.Equal(d.View(), image) {
		t.Errorf("%d lines: octets", lines)
	}
	for at := range 8 * lines {
		loaded(t, d, at, binary.LittleEndian.Uint64(image[8*at:]))
	}
	for _, at := range []int{8 * lines, 8*lines + 1, -1} {
		if got, e := d.Load(at); got != 0 || e != api.ErrArg {
			t.Errorf("%d lines: word %d: %x, %v", lines, at, got, e)
		}
	}
	for range 40 { // neither armed, nor planned
		done(t, d.Fence())
		if lines > 0 {
			done(t, d.Store(8*lines-1, one), d.Store(0, one))
		}
	}
	if !d.Up() || !bytes.Equal(d.Image(), image) {
		t.Errorf("%d lines: armed, or planned", lines)
	}
}

func TestNew(t *testing.T) { // P5.1
	for _, n := range []int{0, 1, 2, 3, 63, 64, 65, 4095, 4096} {
		fresh(t, made(t, n), make([]byte, 64*n))
	}
	for _, n := range []int{-1, -2, -64, -4096, 4097, 4098, 4096 * 64, 1 << 32, 1 << 58, 1 << 62, -1 << 32, -1 << 58, math.MinInt, math.MinInt + 1, math.MaxInt - 1, math.MaxInt} {
		if d, e := pmem.New(n); d != nil || e != api.ErrArg {
			t.Errorf("%d lines: %v", n, e)
		}
	}
}

func TestFrom(t *testing.T) { // P5.1
	fresh(t, pmem.From(nil), nil)
	most := 64 * api.MaxLines
	for _, n := range []int{0, 1, 7, 8, 63, 64, 65, 127, 128, 129, 640, most - 64, most - 1, most, most + 1, most + 63, most + 64, 2 * most} {
		image := mixed(n)
		fresh(t, pmem.From(image), image[:min(n/64*64, most)])
	}
}

func TestFromReadsTheLeastFirst(t *testing.T) { // P5.1
	image := octets(0, one, 0, 0, 0, 0, 0, 258)
	d := pmem.From(append(image, 9, 9, 9))
	loaded(t, d, 1, one)
	loaded(t, d, 7, 258)
	if image[8] != 0x11 || image[15] != 0x88 || d.Lines() != 1 {
		t.Error("octets")
	}
}

func TestDevicesAreApart(t *testing.T) { // P5.1
	a, b := made(t, 1), made(t, 1)
	done(t, a.Store(0, one), a.Flush(0), a.Fence(), a.Store(1, two), a.Flush(0))
	a.Plan(1)
	a.Arm(0)
	fresh(t, b, make([]byte, 64))
}

func TestStoreAndLoad(t *testing.T) { // P5.2
	d := made(t, 2)
	for at := range 16 {
		done(t, d.Store(at, one+uint64(at)))
	}
	for at := range 16 {
		loaded(t, d, at, one+uint64(at))
	}
	for _, w := range []uint64{0, 1, 1 << 32, 1<<63 - 1, 1 << 63, three} {
		done(t, d.Store(15, w))
		loaded(t, d, 15, w)
		loaded(t, d, 14, one+14)
	}
	if d.Steps() != 22 {
		t.Errorf("%d steps", d.Steps())
	}
}

func TestStoreAloneDoesNotLast(t *testing.T) { // P5.2, and an example
	d := made(t, 1)
	done(t, d.Store(0, 5))
	loaded(t, d, 0, 5)
	d.Crash()
	loaded(t, d, 0, 0)
}

func TestFlushAndFence(t *testing.T) { // P5.2, and examples
	for _, c := range []struct {
		l    []int
		want uint64
	}{{nil, 5}, {[]int{2}, 6}, {[]int{0}, 5}, {[]int{1}, 5}} {
		d := made(t, 1)
		done(t, d.Store(0, 5), d.Flush(0), d.Store(0, 6), d.Fence())
		loaded(t, d, 0, 6)
		d.Crash(c.l...)
		loaded(t, d, 0, c.want)
	}
}

func TestFlushAloneDoesNotLast(t *testing.T) { // P5.2
	d := made(t, 1)
	done(t, d.Store(3, one), d.Flush(0))
	if lasting(d, 3) != 0 {
		t.Error("lasts ahead of the fence")
	}
	d.Crash()
	loaded(t, d, 3, 0)
	done(t, d.Fence())
	if lasting(d, 3) != 0 {
		t.Error("sent ahead of the crash, and fenced behind it")
	}
}

func TestFenceAloneDoesNotLast(t *testing.T) { // P5.2
	d := made(t, 1)
	done(t, d.Store(3, one), d.Fence())
	if lasting(d, 3) != 0 || len(d.Fates()) != 1 {
		t.Error("fenced without a flush")
	}
	d.Crash()
	loaded(t, d, 3, 0)
}

func TestFlushSendsOneLine(t *testing.T) { // P5.2
	for line := range 3 {
		d := made(t, 3)
		want := make([]uint64, 24)
		for at := range 24 {
			done(t, d.Store(at, one+uint64(at)))
			if at/8 == line {
				want[at] = one + uint64(at)
			}
		}
		done(t, d.Flush(line), d.Fence())
		if !bytes.Equal(d.Image(), octets(want...)) {
			t.Errorf("line %d: %x", line, d.Image())
		}
	}
}

func TestLaterFlushCounts(t *testing.T) { // P5.2
	d := made(t, 1)
	done(t, d.Store(0, one), d.Flush(0), d.Store(0, two), d.Flush(0), d.Store(0, three), d.Fence())
	if lasting(d, 0) != two {
		t.Errorf("%x lasts", lasting(d, 0))
	}
	done(t, d.Fence()) // nothing is sent any more
	if lasting(d, 0) != two || len(d.Fates()) != 1 {
		t.Errorf("%x lasts, open: %v", lasting(d, 0), d.Fates())
	}
}

func TestFenceIsOfAllLines(t *testing.T) { // P5.2
	d := made(t, api.MaxLines)
	for line := range api.MaxLines {
		done(t, d.Store(8*line+line%8, one+uint64(line)), d.Flush(line))
	}
	done(t, d.Fence())
	if len(d.Fates()) != 0 || !bytes.Equal(d.Image(), d.View()) || d.Steps() != 2*api.MaxLines+1 {
		t.Errorf("%d open, %d steps", len(d.Fates()), d.Steps())
	}
	d.Crash()
	for line := range api.MaxLines {
		loaded(t, d, 8*line+line%8, one+uint64(line))
	}
}

func TestLastWordAndLine(t *testing.T) { // P5.2
	for _, lines := range []int{1, 2, 4096} {
		d := made(t, lines)
		last := 8*lines - 1
		done(t, d.Store(last, one), d.Flush(lines-1), d.Fence())
		for i := 1; i <= 9; i++ {
			if got, e := d.Load(last + i); got != 0 || e != api.ErrArg || d.Store(last+i, two) != api.ErrArg || d.Flush(lines-1+i) != api.ErrArg {
				t.Errorf("%d lines: %d behind the last", lines, i)
			}
		}
		if d.Steps() != 3 || lasting(d, last) != one || len(d.Fates()) != 0 {
			t.Errorf("%d lines: %d steps", lines, d.Steps())
		}
	}
}

func TestWithoutLines(t *testing.T) { // P5.2, P5.3, P5.4
	for _, d := range []*pmem.Device{made(t, 0), pmem.From(nil), pmem.From(mixed(63))} {
		d.Plan(0, 1, math.MaxInt)
		for _, n := range append(slices.Clone(nowhere), 0, 1) {
			if w, e := d.Load(n); w != 0 || e != api.ErrArg || d.Store(n, one) != api.ErrArg || d.Flush(n) != api.ErrArg {
				t.Errorf("%d", n)
			}
		}
		done(t, d.Fence(), d.Fence())
		d.Arm(1)
		done(t, d.Fence())
		if d.Up() || d.Fence() != api.ErrPower || d.Store(0, 1) != api.ErrPower || d.Steps() != 3 || d.Lines() != 0 {
			t.Errorf("%d steps", d.Steps())
		}
		d.Crash(1, 2)
		if !d.Up() || len(d.Image()) != 0 || len(d.View()) != 0 || len(d.Fates()) != 0 {
			t.Error("crashed")
		}
	}
}

// all is all that a device tells without a change, but what it is armed with and its plan.
type all struct {
	image, view  []byte
	fates        []api.Fate
	steps, lines int
	up           bool
}

func told(d *pmem.Device) all {
	return all{d.Image(), d.View(), d.Fates(), d.Steps(), d.Lines(), d.Up()}
}

func TestWrongPlaces(t *testing.T) { // P5.2: with the power on and off
	d := made(t, 2)
	done(t, d.Store(9, one), d.Flush(1), d.Store(9, two), d.Store(1, three))
	before := told(d)
	for _, want := range []api.Errno{api.ErrArg, api.ErrPower} {
		for _, n := range nowhere {
			if w, e := d.Load(n); w != 0 || e != want {
				t.Errorf("Load(%d): %x, %v", n, w, e)
			}
			if e := d.Store(n, one); e != want {
				t.Errorf("Store(%d): %v", n, e)
			}
			if e := d.Flush(n); e != want {
				t.Errorf("Flush(%d): %v", n, e)
			}
		}
		if got := told(d); !reflect.DeepEqual(got, before) {
			t.Errorf("changed: %v", got)
		}
		d.Arm(0)
		before.up = false
	}
}

func TestRefusedIsNoStep(t *testing.T) { // P5.2, P5.3: neither the power's nor the plan's
	d := made(t, 1)
	d.Arm(3)
	d.Plan(-1, 2, -1)
	done(t, d.Store(2, one))
	for _, n := range nowhere {
		d.Store(n, two)
		d.Flush(n)
		d.Load(n)
	}
	d.Load(0)
	if !d.Up() || lasting(d, 2) != 0 || d.Steps() != 1 {
		t.Error("counted")
	}
	done(t, d.Fence())
	if !d.Up() || lasting(d, 2) != one || d.Steps() != 2 {
		t.Error("behind two steps")
	}
	done(t, d.Fence())
	if d.Up() || d.Steps() != 3 {
		t.Error("behind three steps")
	}
	for range 5 {
		d.Fence()
		d.Store(0, 1)
		d.Flush(0)
	}
	if d.Steps() != 3 {
		t.Error("without power")
	}
}

func TestNothingIsDoneWithoutPower(t *testing.T) { // P5.2
	d := made(t, 2)
	done(t, d.Store(0, one), d.Flush(0), d.Store(0, two), d.Store(9, three))
	d.Plan(9)
	d.Arm(0)
	before := told(d)
	for at := range 16 {
		if w, e := d.Load(at); w != 0 || e != api.ErrPower || d.Store(at, 7) != api.ErrPower {
			t.Errorf("word %d", at)
		}
	}
	if d.Flush(0) != api.ErrPower || d.Flush(1) != api.ErrPower || d.Fence() != api.ErrPower {
		t.Error("done")
	}
	if got := told(d); !reflect.DeepEqual(got, before) || d.Up() {
		t.Errorf("changed: %v", got)
	}
}

func TestArm(t *testing.T) { // P5.3
	for n := range 12 {
		d := made(t, 1)
		done(t, d.Fence(), d.Fence())
		d.Arm(n)
		for i := range n {
			if !d.Up() {
				t.Fatalf("armed with %d: off behind %d", n, i)
			}
			done(t, []func() api.Errno{d.Fence, func() api.Errno { return d.Store(0, one) }, func() api.Errno { return d.Flush(0) }}[i%3]())
		}
		if d.Up() || d.Fence() != api.ErrPower || d.Store(0, 1) != api.ErrPower || d.Flush(0) != api.ErrPower || d.Steps() != 2+n {
			t.Errorf("armed with %d: on", n)
		}
	}
}

func TestNotArmed(t *testing.T) { // P5.3
	for _, n := range []int{-1, -2, -100, math.MinInt, math.MinInt + 1, 1000, math.MaxInt - 1, math.MaxInt} {
		d := made(t, 1)
		d.Arm(n)
		for range 999 {
			done(t, d.Fence())
		}
		if !d.Up() {
			t.Errorf("armed with %d", n)
		}
	}
}

func TestArmAgain(t *testing.T) { // P5.3: as if it had never been armed before
	for _, first := range []int{-1, 1, 2, 3, 9, math.MinInt, math.MaxInt} {
		for _, second := range []int{-1, 0, 1, 2, 3, 9, math.MinInt} {
			d := made(t, 1)
			d.Arm(first)
			d.Arm(first)
			if first > 1 {
				done(t, d.Fence())
			}
			d.Arm(second)
			got := 0
			for d.Fence() == api.OK && got < 100 {
				got++
			}
			if second >= 0 && got != second || second < 0 && got != 100 {
				t.Errorf("%d, then %d: off behind %d", first, second, got)
			}
		}
	}
}

func TestArmAgainAndAgain(t *testing.T) { // P5.3
	d := made(t, 1)
	for range 50 {
		d.Arm(2)
		done(t, d.Fence())
	}
	if !d.Up() {
		t.Error("armed anew ahead of its going")
	}
	d.Arm(-1)
	for range 50 {
		done(t, d.Fence())
	}
	d.Arm(1)
	done(t, d.Fence())
	if d.Up() {
		t.Error("on")
	}
}

func TestArmWithoutPower(t *testing.T) { // P5.3
	d := made(t, 1)
	d.Arm(0)
	for _, n := range []int{-1, 0, 1, 5, math.MinInt, math.MaxInt} {
		d.Arm(n)
		if d.Up() || d.Fence() != api.ErrPower {
			t.Errorf("armed with %d: on", n)
		}
	}
	d.Arm(2)
	d.Crash()
	for range 20 {
		done(t, d.Fence())
	}
	if !d.Up() {
		t.Error("armed without power")
	}
}

// evicted is which word each of some fences made last, -1 where none did, up to the first one that did, of a device of one line whose words are all stored, and none of which lasts.
func evicted(t *testing.T, d *pmem.Device, steps int) []int {
	t.Helper()
	var out []int
	for range steps {
		done(t, d.Fence())
		which := -1
		for at := range 8 {
			if w := lasting(d, at); w != 0 {
				if w != one+uint64(at) || which >= 0 {
					t.Errorf("%x in word %d", w, at)
				}
				which = at
			}
		}
		out = append(out, which)
		if which >= 0 {
			break
		}
	}
	return out
}

// full is a device of one line whose words were all stored.
func full(t *testing.T) *pmem.Device {
	d := made(t, 1)
	for at := range 8 {
		done(t, d.Store(at, one+uint64(at)))
	}
	return d
}

func TestPlan(t *testing.T) { // P5.3
	for n := range 30 {
		for ahead := range 4 {
			plan := append(slices.Repeat([]int{-1}, ahead), n)
			d := full(t)
			d.Plan(plan...)
			got := evicted(t, d, 10)
			if want := append(slices.Repeat([]int{-1}, ahead), n%8); !slices.Equal(got, want) {
				t.Errorf("%v: %v", plan, got)
			}
		}
	}
	for n, want := range map[int]int{1 << 32: 0, 1<<62 + 3: 3, math.MaxInt: 7, math.MaxInt - 1: 6} {
		d := full(t)
		d.Plan(n)
		if got := evicted(t, d, 1); !slices.Equal(got, []int{want}) {
			t.Errorf("%d: %v", n, got)
		}
	}
}

func TestPlanOfAnotherDevice(t *testing.T) { // P5.3: the rest is by the words, not by the lines
	d := made(t, 3)
	done(t, d.Store(23, one), d.Store(0, two), d.Store(1, three))
	d.Plan(23, 24, 25+24*7)
	for _, c := range []struct {
		at int
		w  uint64
	}{{23, one}, {0, two}, {1, three}} {
		if lasting(d, c.at) != 0 {
			t.Errorf("word %d ahead of its step", c.at)
		}
		done(t, d.Fence())
		if lasting(d, c.at) != c.w {
			t.Errorf("word %d: %x", c.at, lasting(d, c.at))
		}
	}
}

func TestPlansThatEvictNothing(t *testing.T) { // P5.3
	for _, plan := range [][]int{nil, {}, {-1}, {-8}, {math.MinInt}, {math.MinInt + 1, -7}, slices.Repeat([]int{-1}, 100), append(slices.Repeat([]int{-3}, 20), 0, 1, 2)} {
		d := full(t)
		d.Plan(0)
		d.Plan(plan...)
		if got := evicted(t, d, 20); slices.Max(got) != -1 {
			t.Errorf("%v: %v", plan, got)
		}
		if len(d.Fates()) != 8 {
			t.Errorf("%v: open: %v", plan, d.Fates())
		}
	}
}

func TestPlanGoesRound(t *testing.T) { // P5.3: it is shorter than the steps that follow
	d := made(t, 1)
	d.Plan(0, -1, 1)
	for round := uint64(1); round < 20; round++ {
		done(t, d.Store(0, round))
		if lasting(d, 0) != round {
			t.Fatalf("round %d: first", round)
		}
		done(t, d.Store(1, round))
		if lasting(d, 1) != round-1 {
			t.Fatalf("round %d: second", round)
		}
		done(t, d.Store(0, round+100))
		if lasting(d, 1) != round || lasting(d, 0) != round {
			t.Fatalf("round %d: third", round)
		}
	}
}

func TestPlanLaidAnew(t *testing.T) { // P5.3: from its first number on
	d := full(t)
	d.Plan(-1, -1, 5)
	done(t, d.Fence(), d.Fence())
	d.Plan(-1, -1, 6)
	done(t, d.Fence(), d.Fence())
	if len(d.Fates()) != 8 {
		t.Error("went on with the first plan")
	}
	done(t, d.Fence())
	if lasting(d, 5) != 0 || lasting(d, 6) != one+6 {
		t.Error("the second plan")
	}
	d.Plan()
	for range 9 {
		done(t, d.Fence())
	}
	if len(d.Fates()) != 7 {
		t.Error("a plan of none")
	}
}

func TestPlanIsBehindItsStep(t *testing.T) { // P5.3
	d := made(t, 1)
	d.Plan(0)
	done(t, d.Store(0, one))
	if lasting(d, 0) != one || len(d.Fates()) != 0 {
		t.Error("stored, then evicted")
	}
	done(t, d.Flush(0))
	if fs := d.Fates(); len(fs) != 7 || fs[0].At != 1 {
		t.Errorf("flushed, then evicted: %v", fs)
	}
	done(t, d.Store(1, two), d.Fence())
	if lasting(d, 1) != 0 || len(d.Fates()) != 1 {
		t.Errorf("fenced, then evicted: %v", d.Fates())
	}
}

func TestPlanBehindTheLastStep(t *testing.T) { // P5.3: the step was done, so it is behind it, too
	d := made(t, 1)
	d.Plan(-1, 0)
	d.Arm(2)
	done(t, d.Store(0, one), d.Store(1, two))
	if d.Up() || lasting(d, 0) != one || lasting(d, 1) != 0 {
		t.Errorf("up %v, %x", d.Up(), d.Image())
	}
	for range 5 {
		d.Fence()
	}
	if lasting(d, 1) != 0 || len(d.Fates()) != 1 {
		t.Error("evicted without power")
	}
}

func TestEvictedWhileSent(t *testing.T) { // P5.3, P5.4
	d := made(t, 1)
	done(t, d.Store(0, one), d.Flush(0), d.Store(0, two))
	d.Plan(0, -1)
	done(t, d.Store(1, three))
	if lasting(d, 0) != two {
		t.Errorf("%x lasts", lasting(d, 0))
	}
	for _, f := range d.Fates() {
		if f.At == 0 {
			t.Errorf("still open: %v", f)
		}
	}
	done(t, d.Fence())
	if lasting(d, 0) != two { // what was sent is forgotten: the fence doesn't bring it back
		t.Errorf("%x lasts behind the fence", lasting(d, 0))
	}
	d.Crash(1, 1, 1, 1, 1, 1, 1, 1)
	loaded(t, d, 0, two)
	loaded(t, d, 1, 0)
}

func TestPlanIsNotKept(t *testing.T) { // P5.5: a list that is handed in
	plan := make([]int, 2, 4)
	plan[0], plan[1] = -1, 3
	d := full(t)
	d.Plan(plan...)
	plan[0], plan[1] = 1, 2
	_ = append(plan, 4, 5)
	if got := evicted(t, d, 2); !slices.Equal(got, []int{-1, 3}) {
		t.Errorf("%v", got)
	}
	for range 5 {
		done(t, d.Fence())
	}
	if whole := plan[:4]; whole[0] != 1 || whole[1] != 2 || whole[2] != 4 || whole[3] != 5 {
		t.Errorf("%v", whole)
	}
}

func TestPlanIsNotLoaded(t *testing.T) { // P5.5: a plan changes nothing of what is loaded
	r := rand.New(rand.NewSource(51))
	for range 100 {
		a, b := made(t, 2), made(t, 2)
		plan := make([]int, r.Intn(9))
		for i := range plan {
			plan[i] = r.Intn(40) - 8
		}
		a.Plan(plan...)
		for range 60 {
			at, w := r.Intn(16), r.Uint64()
			switch r.Intn(6) {
			case 0:
				done(t, a.Flush(at/8), b.Flush(at/8))
			case 1:
				done(t, a.Fence(), b.Fence())
			default:
				done(t, a.Store(at, w), b.Store(at, w))
			}
			for at := range 16 {
				x, _ := a.Load(at)
				loaded(t, b, at, x)
			}
			if !bytes.Equal(a.View(), b.View()) {
				t.Fatalf("%v", plan)
			}
		}
	}
}

func TestFates(t *testing.T) { // P5.4
	d := pmem.From(octets(7, 8, 0, 0, 0, 0, 0, 0, 9, 0, 0, 0, 0, 0, 0, 0))
	done(t, d.Store(0, 7), d.Store(9, 0)) // what lasts already
	if len(d.Fates()) != 0 {
		t.Errorf("open: %v", d.Fates())
	}
	done(t, d.Store(15, three), d.Store(1, one))
	if want := []api.Fate{{At: 1, Lasts: 8, Stored: one}, {At: 15, Stored: three}}; !slices.Equal(d.Fates(), want) {
		t.Errorf("stored: %v", d.Fates())
	}
	done(t, d.Flush(0), d.Store(1, two), d.Store(0, one))
	want := []api.Fate{{At: 0, Lasts: 7, Flushed: true, Sent: 7, Stored: one}, {At: 1, Lasts: 8, Flushed: true, Sent: one, Stored: two}}
	for at := 2; at < 8; at++ {
		want = append(want, api.Fate{At: at, Flushed: true})
	}
	want = append(want, api.Fate{At: 15, Stored: three})
	if !slices.Equal(d.Fates(), want) {
		t.Errorf("sent: %v", d.Fates())
	}
	done(t, d.Store(1, 8)) // sent, though what was stored is what lasts
	want[1].Stored = 8
	if !slices.Equal(d.Fates(), want) {
		t.Errorf("stored again: %v", d.Fates())
	}
	done(t, d.Fence())
	if want := []api.Fate{{At: 0, Lasts: 7, Stored: one}, {At: 1, Lasts: one, Stored: 8}, {At: 15, Stored: three}}; !slices.Equal(d.Fates(), want) {
		t.Errorf("fenced: %v", d.Fates())
	}
	d.Arm(0)
	if len(d.Fates()) != 3 {
		t.Error("without power")
	}
}

// opened is a device whose words 1 (stored), 8 (sent, and stored again) to 15 (sent) are open.
func opened(t *testing.T) *pmem.Device {
	image := make([]uint64, 16)
	image[1], image[8], image[15] = 11, 12, 13
	d := pmem.From(octets(image...))
	done(t, d.Store(1, 21), d.Store(8, 22), d.Flush(1), d.Store(8, 32))
	return d
}

func TestCrashChoices(t *testing.T) { // P5.4
	rests := map[int][]int{
		0: {0, 3, -3, 6, -6, 300, math.MaxInt - 1, math.MinInt + 2},
		1: {1, 4, -2, -5, 301, math.MaxInt, math.MinInt},
		2: {2, 5, -1, -4, 302, math.MaxInt - 2, math.MinInt + 1},
	}
	word1 := []uint64{11, 11, 21} // it wasn't sent
	word8 := []uint64{12, 22, 32}
	for first, ns := range rests {
		for second, ms := range rests {
			for _, n := range ns {
				for _, m := range ms {
					d := opened(t)
					d.Crash(n, m)
					loaded(t, d, 1, word1[first])
					loaded(t, d, 8, word8[second])
					loaded(t, d, 15, 13)
				}
			}
		}
	}
}

func TestCrashWithFewerAndMore(t *testing.T) { // P5.4
	for _, c := range []struct {
		l            []int
		word1, word8 uint64
	}{
		{nil, 11, 12}, {[]int{}, 11, 12}, {[]int{2}, 21, 12}, {[]int{0, 2}, 11, 32}, {[]int{2, 1}, 21, 22},
		{[]int{2, 1, 2, 2, 2, 2, 2, 2, 2}, 21, 22}, {[]int{0, 1, 2, 2, 2, 2, 2, 2, 2, 2, 1, 2}, 11, 22}, {slices.Repeat([]int{2}, 1000), 21, 32}, {slices.Repeat([]int{-2}, 1000), 11, 22}, {slices.Repeat([]int{3}, 1000), 11, 12},
	} {
		want := make([]uint64, 16)
		want[1], want[8], want[15] = c.word1, c.word8, 13
		for _, off := range []bool{false, true} {
			d := opened(t)
			if off {
				d.Arm(0)
			}
			d.Crash(c.l...)
			if !bytes.Equal(d.Image(), octets(want...)) || !bytes.Equal(d.View(), octets(want...)) || len(d.Fates()) != 0 {
				t.Errorf("%v, off %v: %x", c.l, off, d.Image())
			}
			if !d.Up() || d.Steps() != 4 || d.Lines() != 2 {
				t.Errorf("%v, off %v: up %v, %d steps", c.l, off, d.Up(), d.Steps())
			}
		}
	}
}

func TestCrashCountsOpenWords(t *testing.T) { // P5.4: the i-th number is the i-th open word's, not the word's with that number
	d := made(t, 4)
	for _, at := range []int{30, 2, 17, 5} {
		done(t, d.Store(at, one+uint64(at)))
	}
	d.Crash(0, 2, 0, 2)
	for at, want := range map[int]uint64{2: 0, 5: one + 5, 17: 0, 30: one + 30} {
		loaded(t, d, at, want)
	}
}

func TestCrashForgets(t *testing.T) { // P5.4: the power's going, the plan, what was sent
	for _, off := range []bool{false, true} {
		d := made(t, 1)
		done(t, d.Store(0, one), d.Flush(0))
		d.Plan(1)
		d.Arm(3)
		if off {
			d.Arm(0)
		}
		d.Crash()
		loaded(t, d, 0, 0)
		for range 20 {
			done(t, d.Store(1, two), d.Fence())
		}
		if !d.Up() || lasting(d, 0) != 0 || lasting(d, 1) != 0 || d.Steps() != 42 {
			t.Errorf("off %v: up %v, %d steps, %x", off, d.Up(), d.Steps(), d.Image())
		}
	}
}

func TestCrashAgainAndAgain(t *testing.T) { // P5.4
	d := opened(t)
	d.Crash(2, 1)
	before := d.Image()
	for range 5 {
		d.Crash(2, 2, 2, 1, 1, 1, 0)
		if !bytes.Equal(d.Image(), before) || d.Steps() != 4 || !d.Up() {
			t.Fatal("changed")
		}
	}
	for round := uint64(1); round < 9; round++ {
		d.Arm(int(round % 3))
		d.Store(0, round)
		d.Crash(2)
		want := round
		if round%3 == 0 {
			want = round - 1
		}
		loaded(t, d, 0, want)
	}
}

func TestCrashNumbersAreNeitherChangedNorKept(t *testing.T) { // P5.5
	whole := []int{-1, 5, 7, 8}
	l := whole[:2]
	d := opened(t)
	d.Crash(l...)
	if !slices.Equal(whole, []int{-1, 5, 7, 8}) {
		t.Errorf("%v", whole)
	}
	l[0], l[1] = 0, 0
	loaded(t, d, 1, 21)
	loaded(t, d, 8, 32)
}

func TestImageAndView(t *testing.T) { // P5.5: also without power
	d := opened(t)
	lasts, stored := make([]uint64, 16), make([]uint64, 16)
	lasts[1], lasts[8], lasts[15] = 11, 12, 13
	stored[1], stored[8], stored[15] = 21, 32, 13
	for range 2 {
		if !bytes.Equal(d.Image(), octets(lasts...)) || !bytes.Equal(d.View(), octets(stored...)) {
			t.Errorf("up %v: %x, %x", d.Up(), d.Image(), d.View())
		}
		d.Arm(0)
	}
	if d.Up() {
		t.Error("up")
	}
	d = made(t, 1)
	done(t, d.Store(1, one))
	if got := d.View(); !bytes.Equal(got[8:16], []byte{0x11, 0x22, 0x33, 0x44, 0x55, 0x66, 0x77, 0x88}) || len(got) != 64 {
		t.Errorf("%x", got)
	}
}

func TestFlushedAndFencedLasts(t *testing.T) { // P5.5: whatever crash comes
	r := rand.New(rand.NewSource(55))
	for range 300 {
		d := made(t, 2)
		at, w := r.Intn(16), r.Uint64()
		d.Plan(r.Intn(20)-4, r.Intn(20)-4, r.Intn(20)-4)
		done(t, d.Store(at, r.Uint64()), d.Store(at, w), d.Flush(at/8))
		if r.Intn(2) == 0 {
			done(t, d.Flush(1), d.Flush(0))
		}
		done(t, d.Fence())
		for range 3 {
			for range r.Intn(20) {
				switch other := r.Intn(16); r.Intn(4) {
				case 0:
					done(t, d.Flush(other/8))
				case 1:
					done(t, d.Fence())
				case 2:
					done(t, d.Store(at, w)) // not something else
				default:
					if other != at {
						done(t, d.Store(other, r.Uint64()))
					}
				}
			}
			l := make([]int, r.Intn(20))
			for i := range l {
				l[i] = int(r.Uint64())
			}
			if lasting(d, at) != w {
				t.Fatalf("word %d: %x, not %x", at, lasting(d, at), w)
			}
			if r.Intn(2) == 0 {
				d.Arm(0)
			}
			d.Crash(l...)
			loaded(t, d, at, w)
		}
	}
}

func TestAnswersAreNew(t *testing.T) { // P5.5
	d := opened(t)
	before := told(d)
	got := told(d)
	for _, b := range [][]byte{got.image, got.view} {
		for i := range b {
			b[i] = 0xa5
		}
		_ = append(b, 0xa5)
	}
	for i := range got.fates {
		got.fates[i] = api.Fate{At: 99, Lasts: 99, Flushed: true, Sent: 99, Stored: 99}
	}
	_ = append(got.fates, api.Fate{})
	if !reflect.DeepEqual(told(d), before) {
		t.Errorf("%v", told(d))
	}
	done(t, d.Store(0, three), d.Fence())
	kept := before.image
	d.Crash(2, 2)
	if !bytes.Equal(kept[8:16], octets(11)) {
		t.Errorf("an answer was changed: %x", kept)
	}
	loaded(t, d, 0, three)
}

func TestImageIsNeitherChangedNorKept(t *testing.T) { // P5.5
	whole := mixed(200)
	before := slices.Clone(whole)
	image := whole[:130]
	d := pmem.From(image)
	for at := range 16 {
		done(t, d.Store(at, three))
	}
	done(t, d.Flush(0), d.Flush(1), d.Fence())
	if !bytes.Equal(whole, before) {
		t.Error("changed")
	}
	d = pmem.From(image)
	clear(whole)
	if !bytes.Equal(d.Image(), before[:128]) || !bytes.Equal(d.View(), before[:128]) {
		t.Error("kept")
	}
}

// word is what the document says of one.
type word struct {
	lasts, stored, sent uint64
	isSent              bool
}

func (w word) open() bool { return w.isSent || w.stored != w.lasts }

// model is a device by the document's own words.
type model struct {
	words []word
	steps int
	on    bool
	armed bool
	more  int
	plan  []int
	since int
}

func modelled(image []byte) *model {
	m := &model{on: true}
	for line := 0; line < 4096 && 64*line+64 <= len(image); line++ {
		for i := range 8 {
			v := binary.LittleEndian.Uint64(image[64*line+8*i:])
			m.words = append(m.words, word{lasts: v, stored: v})
		}
	}
	return m
}

func (m *model) behind() api.Errno {
	if n := len(m.plan); n > 0 && len(m.words) > 0 {
		if at := m.plan[m.since%n]; at >= 0 {
			w := &m.words[at%len(m.words)]
			w.lasts, w.isSent, w.sent = w.stored, false, 0
		}
	}
	m.since++
	m.steps++
	m.more--
	if m.armed && m.more == 0 {
		m.on = false
	}
	return api.OK
}

func (m *model) store(at int, v uint64) api.Errno {
	if !m.on {
		return api.ErrPower
	}
	for i := range m.words {
		if i == at {
			m.words[i].stored = v
			return m.behind()
		}
	}
	return api.ErrArg
}

func (m *model) load(at int) (uint64, api.Errno) {
	if !m.on {
		return 0, api.ErrPower
	}
	for i, w := range m.words {
		if i == at {
			return w.stored, api.OK
		}
	}
	return 0, api.ErrArg
}

func (m *model) flush(line int) api.Errno {
	if !m.on {
		return api.ErrPower
	}
	found := false
	for i := range m.words {
		if i/8 == line {
			m.words[i].sent, m.words[i].isSent, found = m.words[i].stored, true, true
		}
	}
	if !found {
		return api.ErrArg
	}
	return m.behind()
}

func (m *model) fence() api.Errno {
	if !m.on {
		return api.ErrPower
	}
	for i, w := range m.words {
		if w.isSent {
			m.words[i] = word{lasts: w.sent, stored: w.stored}
		}
	}
	return m.behind()
}

func (m *model) arm(n int) {
	if m.on {
		m.armed, m.more, m.on = n >= 0, n, n != 0
	}
}

func (m *model) fates() []api.Fate {
	var out []api.Fate
	for i, w := range m.words {
		if w.open() {
			out = append(out, api.Fate{At: i, Lasts: w.lasts, Flushed: w.isSent, Sent: w.sent, Stored: w.stored})
		}
	}
	return out
}

func (m *model) crash(l []int) {
	for i, w := range m.words {
		choice := 0
		if w.open() && len(l) > 0 {
			choice, l = l[0], l[1:]
		}
		last := w.lasts
		switch choice % 3 {
		case 1, -2:
			if w.isSent {
				last = w.sent
			}
		case 2, -1:
			last = w.stored
		}
		m.words[i] = word{lasts: last, stored: last}
	}
	m.on, m.armed, m.plan = true, false, nil
}

func (m *model) octets() (image, view []byte) {
	for _, w := range m.words {
		image = append(image, octets(w.lasts)...)
		view = append(view, octets(w.stored)...)
	}
	return image, view
}

// same fails if a device isn't as the model is.
func same(t *testing.T, d *pmem.Device, m *model) {
	t.Helper()
	if d.Lines() != len(m.words)/8 || d.Up() != m.on || d.Steps() != m.steps {
		t.Fatalf("%d lines, up %v, %d steps, not %d, %v, %d", d.Lines(), d.Up(), d.Steps(), len(m.words)/8, m.on, m.steps)
	}
	if got, want := d.Fates(), m.fates(); !slices.Equal(got, want) {
		t.Fatalf("open: %v, not %v", got, want)
	}
	if image, view := m.octets(); !bytes.Equal(d.Image(), image) || !bytes.Equal(d.View(), view) {
		t.Fatalf("%x and %x, not %x and %x", d.Image(), d.View(), image, view)
	}
}

// numbers are what a few octets say, small ones and very great ones.
func numbers(b []byte) []int {
	var out []int
	for _, x := range b {
		n := int(int8(x))
		switch {
		case x%16 == 15:
			n = math.MaxInt - n&63
		case x%16 == 14:
			n = math.MinInt + n&63
		}
		out = append(out, n)
	}
	return out
}

// act does with both what some octets say, and fails if the answers are unlike.
func act(t *testing.T, d *pmem.Device, m *model, b []byte) {
	t.Helper()
	n := numbers(b[1:2])[0]
	var got, want api.Errno
	switch what := b[0] % 16; {
	case what < 6:
		v := uint64(b[2]%4) * one
		got, want = d.Store(n%32, v), m.store(n%32, v)
	case what < 9:
		got, want = d.Flush(n%4), m.flush(n%4)
	case what == 9:
		got, want = d.Fence(), m.fence()
	case what == 10:
		got, want = d.Flush(n), m.flush(n)
	case what == 11:
		got, want = d.Store(n, one), m.store(n, one)
	case what == 12:
		if n > 40 {
			n = -n
		}
		d.Arm(n)
		m.arm(n)
	case what == 13:
		l := numbers(b[2 : 2+b[1]%byte(len(b)-1)])
		d.Plan(l...)
		m.plan, m.since = l, 0
	case what == 14:
		l := numbers(b[2 : 2+b[1]%byte(len(b)-1)])
		d.Crash(l...)
		m.crash(l)
	default:
		x, e := d.Load(n)
		y, f := m.load(n)
		if x != y {
			t.Fatalf("word %d: %x, not %x", n, x, y)
		}
		got, want = e, f
	}
	if got != want {
		t.Fatalf("%v: %v, not %v", b, got, want)
	}
}

// length is how many octets of a script are one act.
const length = 12

func play(t *testing.T, image, script []byte) {
	t.Helper()
	d, m := pmem.From(image), modelled(image)
	same(t, d, m)
	for len(script) >= length {
		act(t, d, m, script[:length])
		same(t, d, m)
		script = script[length:]
	}
	for at := -1; at <= len(m.words); at++ {
		x, e := d.Load(at)
		if y, f := m.load(at); x != y || e != f {
			t.Fatalf("word %d: %x, %v, not %x, %v", at, x, e, y, f)
		}
	}
}

func TestModel(t *testing.T) { // P5.1 to P5.5
	for i := range 1500 {
		r := rand.New(rand.NewSource(int64(i)))
		image := make([]byte, r.Intn(5)*64+r.Intn(2)*r.Intn(64))
		script := make([]byte, length*(20+r.Intn(100)))
		r.Read(script)
		if i%2 == 0 {
			r.Read(image)
		}
		play(t, image, script)
	}
}

func TestDoneTwice(t *testing.T) { // what is done twice is alike
	for i := range 200 {
		script := make([]byte, length*60)
		rand.New(rand.NewSource(int64(i))).Read(script)
		var both [2]all
		for j := range both {
			d, m := made(t, 3), modelled(make([]byte, 192))
			for b := range slices.Chunk(script, length) {
				act(t, d, m, b)
			}
			both[j] = told(d)
		}
		if !reflect.DeepEqual(both[0], both[1]) {
			t.Fatalf("script %d", i)
		}
	}
}

func FuzzScripts(f *testing.F) { // P5.1 to P5.5: any calls on any image
	r := rand.New(rand.NewSource(5))
	for n := range 6 {
		script := make([]byte, length*30)
		r.Read(script)
		f.Add(mixed(40*n), script)
	}
	f.Fuzz(func(t *testing.T, image, script []byte) {
		if len(image) < 1<<11 && len(script) < 1<<12 {
			play(t, image, script)
		}
	})
}
