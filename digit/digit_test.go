package digit_test

import (
	"math"
	"math/big"
	"math/rand"
	"regexp"
	"slices"
	"strings"
	"testing"
	"unicode"
	"unicode/utf8"

	"rickyard/api"
	"rickyard/digit"
)

// The document's words for a number's text, without its bounds.
var form = regexp.MustCompile(`^(0|-?[1-9][0-9]*)$`)

// read is what Read must answer, by numbers that have no bounds.
func read(s string) (int, bool) {
	if len(s) > 50 || !form.MatchString(s) { // longer ones are beyond 64 bits, and slow to work out
		return 0, false
	}
	n, ok := new(big.Int).SetString(s, 10)
	if !ok || !n.IsInt64() {
		return 0, false
	}
	return int(n.Int64()), true
}

// readHandle is what ReadHandle must answer.
func readHandle(s string) (api.Handle, bool) {
	parts := strings.Split(s, ".")
	if len(parts) != 2 {
		return api.Handle{}, false
	}
	slot, ok1 := read(parts[0])
	gen, ok2 := read(parts[1])
	if !ok1 || !ok2 || slot < 0 || gen < 0 {
		return api.Handle{}, false
	}
	return api.Handle{Slot: slot, Gen: gen}, true
}

// numbers are edges, all powers of 2 and 10 with those beside them, and drawn ones of all lengths.
func numbers() []int {
	out := []int{0, math.MinInt, math.MinInt + 1, math.MaxInt, math.MaxInt - 1, -1234567890123456789, 1234567890123456789}
	for i := -1100; i <= 1100; i++ {
		out = append(out, i)
	}
	for i := range 63 {
		out = append(out, 1<<i-1, 1<<i, 1<<i+1, -(1<<i)-1, -(1 << i), -(1<<i)+1)
	}
	for p := 1; p <= math.MaxInt/10; p *= 10 {
		out = append(out, p*10-1, p*10, p*10+1, -p*10-1, -p*10, -p*10+1)
	}
	r := rand.New(rand.NewSource(4))
	for range 3000 {
		out = append(out, int(r.Uint64()>>r.Intn(64)), -int(r.Uint64()>>r.Intn(64)))
	}
	slices.Sort(out)
	return slices.Compact(out)
}

// handles have the edges, 0 among them, on either side.
func handles() []api.Handle {
	var out []api.Handle
	some := []int{0, 1, 2, 9, 10, 11, 12, 99, 100, 101, 111, 1791, 1792, api.MaxGens, api.MaxGens + 1, math.MaxInt - 1, math.MaxInt}
	for _, slot := range some {
		for _, gen := range some {
			out = append(out, api.Handle{Slot: slot, Gen: gen})
		}
	}
	return out
}

// wrong are texts of no number.
var wrong = []string{
	"", "-", "--", "+", "+0", "+1", "+-1", "-+1", "--1", "-0", "-00", "-07", "00", "07", "007", "0000000000000000000000",
	" ", " 1", "1 ", "1 2", "- 1", "\t1", "1\n", "\n1", "1\r\n", "\u00a01", "1\u00a0", "\u30001", "1\u2009000",
	"1-", "1-1", "1+", "1.0", "1.", ".1", "1e3", "0x1", "0b1", "0o7", "1_000", "1,000", "a", "1a", "a1", "A", "0a",
	"٣", "1٣", "٣1", "３", "1３", "३", "৩", "²", "1²", "①", "Ⅷ", "𝟑", "\u2212" + "1", "－1", "\ufe631", "\u20101", "1\u0301", "\ufeff1",
	"\xff", "1\xff", "\xff1", "-\xff", "\xb1", "\xc0\xb1", "1\xc0\xb1", "\xe0\x80\xb1", "\xd9", "1\xd9", "\x00", "1\x00", "\x001", "\ufffd", "\ufffd1",
	"inf", "-inf", "NaN", "true", "nil", "/", ":", "1/", "1:",
	"9223372036854775808", "9223372036854775809", "9223372036854775810", "9223372036854775817", "9223372036854775818", "-9223372036854775809", "-9223372036854775810", "-9223372036854775818",
	"9999999999999999999", "-9999999999999999999", "10000000000000000000", "-10000000000000000000", "18446744073709551615", "18446744073709551616", "18446744073709551617", "-18446744073709551615", "-18446744073709551616", "-18446744073709551617",
	"92233720368547758070", "-92233720368547758080", "36893488147419103233", "340282366920938463463374607431768211457", "09223372036854775807", "-09223372036854775808",
}

// texts are all texts of up to some letters, in which signs, stops, blanks and foreign digits are.
func texts(letters []string, most int) []string {
	out, last := []string{""}, []string{""}
	for range most {
		var next []string
		for _, s := range last {
			for _, l := range letters {
				next = append(next, s+l)
			}
		}
		out = append(out, next...)
		last = next
	}
	return out
}

func checkRead(t *testing.T, s string) {
	t.Helper()
	want, wantOK := read(s)
	if n, ok := digit.Read(s); n != want || ok != wantOK {
		t.Errorf("%q: %d %v, not %d %v", s, n, ok, want, wantOK)
	}
}

func checkReadHandle(t *testing.T, s string) {
	t.Helper()
	want, wantOK := readHandle(s)
	if h, ok := digit.ReadHandle(s); h != want || ok != wantOK {
		t.Errorf("%q: %v %v, not %v %v", s, h, ok, want, wantOK)
	}
}

func TestShow(t *testing.T) { // P3.1
	for n, want := range map[int]string{0: "0", 7: "7", -1: "-1", 10: "10", -10: "-10", 1000000: "1000000", math.MaxInt: "9223372036854775807", math.MaxInt - 1: "9223372036854775806", math.MinInt: "-9223372036854775808", math.MinInt + 1: "-9223372036854775807"} {
		if got := digit.Show(n); got != want {
			t.Errorf("%d: %q", n, got)
		}
	}
	for _, n := range numbers() {
		if got, want := digit.Show(n), big.NewInt(int64(n)).String(); got != want || !form.MatchString(got) {
			t.Errorf("%d: %q", n, got)
		}
	}
}

func TestRead(t *testing.T) { // P3.1
	for s, want := range map[string]int{"0": 0, "7": 7, "-1": -1, "10": 10, "-10": -10, "100": 100, "9223372036854775807": math.MaxInt, "9223372036854775806": math.MaxInt - 1, "-9223372036854775808": math.MinInt, "-9223372036854775807": math.MinInt + 1, "-9223372036854775806": math.MinInt + 2} {
		if n, ok := digit.Read(s); n != want || !ok {
			t.Errorf("%q: %d %v", s, n, ok)
		}
	}
	for _, s := range wrong {
		if n, ok := digit.Read(s); n != 0 || ok {
			t.Errorf("%q: %d %v", s, n, ok)
		}
	}
}

func TestReadOfShortTexts(t *testing.T) { // P3.1
	for _, s := range texts([]string{"0", "1", "7", "9", "-", "+", ".", " ", "a", "٣", "\xff", "\xd9"}, 4) {
		checkRead(t, s)
	}
	for a := range 256 {
		checkRead(t, string([]byte{byte(a)}))
		for b := range 256 {
			checkRead(t, string([]byte{byte(a), byte(b)}))
		}
	}
}

func TestReadOfEachRune(t *testing.T) { // P3.1
	for r := rune(0); r <= utf8.MaxRune; r++ {
		s := string(r)
		if n, ok := digit.Read(s); ok != (r >= '0' && r <= '9') || !ok && n != 0 {
			t.Errorf("%U: %d %v", r, n, ok)
		}
		if unicode.IsDigit(r) || unicode.IsSpace(r) || unicode.IsPunct(r) {
			checkRead(t, "1"+s)
			checkRead(t, s+"1")
		}
	}
}

func TestReadAtTheBounds(t *testing.T) { // P3.1
	near := func(middle *big.Int) {
		for i := int64(-25); i <= 25; i++ {
			n := new(big.Int).Add(middle, big.NewInt(i))
			checkRead(t, n.String())
			checkRead(t, n.Neg(n).String())
		}
	}
	for i := uint(60); i <= 130; i++ {
		near(new(big.Int).Lsh(big.NewInt(1), i))
	}
	for i := int64(17); i <= 40; i++ {
		near(new(big.Int).Exp(big.NewInt(10), big.NewInt(i), nil))
	}
	// Wherever the sum wraps round to, times 2^64 ahead of it or not.
	r := rand.New(rand.NewSource(5))
	for range 3000 {
		n := new(big.Int).Lsh(big.NewInt(int64(r.Intn(40))), 64)
		n.Add(n, big.NewInt(int64(r.Uint64()>>r.Intn(64))))
		checkRead(t, n.String())
		checkRead(t, n.Neg(n).String())
	}
}

func TestReadOfLongTexts(t *testing.T) { // P3.1
	for _, long := range []int{19, 20, 21, 100, 1 << 20} {
		for _, piece := range []string{"0", "1", "9", "-", ".", " ", "٣", "\xff"} {
			s := strings.Repeat(piece, long)
			for _, s := range []string{s, "-" + s, "1" + s, s + "1"} {
				n, ok := digit.Read(s)
				if want, wantOK := read(s); n != want || ok != wantOK {
					t.Errorf("%d times %q: %d %v", long, piece, n, ok)
				}
			}
		}
	}
}

func TestShowHandle(t *testing.T) { // P3.2
	if got := digit.ShowHandle(api.Handle{Slot: 3, Gen: 1}); got != "3.1" {
		t.Errorf("3.1: %q", got)
	}
	if got := digit.ShowHandle(api.Handle{}); got != "0.0" {
		t.Errorf("the zero one: %q", got)
	}
	for _, h := range handles() {
		if got, want := digit.ShowHandle(h), big.NewInt(int64(h.Slot)).String()+"."+big.NewInt(int64(h.Gen)).String(); got != want {
			t.Errorf("%v: %q", h, got)
		}
		for _, less := range []int{-1, -2, -10, math.MinInt + 1, math.MinInt} {
			for _, h := range []api.Handle{{Slot: less, Gen: h.Gen}, {Slot: h.Slot, Gen: less}, {Slot: less, Gen: less}} {
				if got := digit.ShowHandle(h); got != "" {
					t.Errorf("%v: %q", h, got)
				}
			}
		}
	}
}

func TestReadHandle(t *testing.T) { // P3.2
	for s, want := range map[string]api.Handle{"3.1": {Slot: 3, Gen: 1}, "0.0": {}, "0.1": {Gen: 1}, "1.0": {Slot: 1}, "12.340": {Slot: 12, Gen: 340}, "9223372036854775807.0": {Slot: math.MaxInt}, "0.9223372036854775807": {Gen: math.MaxInt}, "9223372036854775807.9223372036854775807": {Slot: math.MaxInt, Gen: math.MaxInt}} {
		if h, ok := digit.ReadHandle(s); h != want || !ok {
			t.Errorf("%q: %v %v", s, h, ok)
		}
	}
	for _, s := range []string{"", ".", "..", "3", "31", "-3", "3.", ".1", "3..1", "3.1.", ".3.1", "3.1.2", "0.0.0", "3,1", "3:1", "3 1", "3 .1", "3. 1", " 3.1", "3.1 ", "3.1\n",
		"-1.2", "3.-1", "-1.-1", "-3.1", "-0.1", "1.-0", "03.1", "3.01", "00.0", "0.00", "+3.1", "3.+1", "3\u30021", "3．1", "3\u06d41", "3\u20241", "٣.1", "3.١", "3.1\xff", "\xff3.1", "3\xff.1", "3.\xff1", "3\xae1",
		"9223372036854775808.1", "1.9223372036854775808", "-9223372036854775808.1", "1.-9223372036854775808", "18446744073709551617.1", "1.18446744073709551617"} {
		if h, ok := digit.ReadHandle(s); h != (api.Handle{}) || ok {
			t.Errorf("%q: %v %v", s, h, ok)
		}
	}
	for _, s := range wrong {
		for _, s := range []string{s, s + ".1", "1." + s, s + "." + s} {
			checkReadHandle(t, s)
		}
	}
}

func TestReadHandleOfShortTexts(t *testing.T) { // P3.2
	for _, s := range texts([]string{"0", "1", "9", "-", "+", ".", " ", "٣", "\xff"}, 5) {
		checkReadHandle(t, s)
	}
}

func TestReadHandleOfLongTexts(t *testing.T) { // P3.2
	for _, piece := range []string{"0", "1", ".", "1.", "0.", "-", "\xff"} {
		long := strings.Repeat(piece, 1<<20)
		for _, s := range []string{long, "1." + long, long + ".1"} {
			if h, ok := digit.ReadHandle(s); h != (api.Handle{}) || ok {
				t.Errorf("many %q: %v %v", piece, h, ok)
			}
		}
	}
}

func TestThereAndBack(t *testing.T) { // P3.3
	for _, n := range numbers() {
		if got, ok := digit.Read(digit.Show(n)); got != n || !ok {
			t.Errorf("%d: %d %v", n, got, ok)
		}
	}
	for _, h := range handles() {
		if got, ok := digit.ReadHandle(digit.ShowHandle(h)); got != h || !ok {
			t.Errorf("%v: %v %v", h, got, ok)
		}
	}
	for _, s := range texts([]string{"0", "1", "9", "-", ".", "+", " "}, 5) {
		if n, ok := digit.Read(s); ok && digit.Show(n) != s {
			t.Errorf("%q is told as %q", s, digit.Show(n))
		}
		if h, ok := digit.ReadHandle(s); ok && digit.ShowHandle(h) != s {
			t.Errorf("%q is told as %q", s, digit.ShowHandle(h))
		}
	}
}

func TestUnlikeTexts(t *testing.T) { // P3.3
	ofNumbers := map[string]int{}
	for _, n := range numbers() {
		s := digit.Show(n)
		if other, there := ofNumbers[s]; there {
			t.Errorf("%d and %d: %q", other, n, s)
		}
		ofNumbers[s] = n
	}
	ofHandles := map[string]api.Handle{}
	for _, h := range handles() {
		s := digit.ShowHandle(h)
		if other, there := ofHandles[s]; there {
			t.Errorf("%v and %v: %q", other, h, s)
		}
		ofHandles[s] = h
	}
}

func FuzzRead(f *testing.F) { // P3.1, P3.2, P3.3: any octets
	for _, s := range wrong {
		f.Add(s)
		f.Add("1." + s)
	}
	for _, s := range []string{"0", "-1", "9223372036854775807", "-9223372036854775808", "0.0", "3.1", "9223372036854775807.9223372036854775807"} {
		f.Add(s)
	}
	f.Fuzz(func(t *testing.T, s string) {
		checkRead(t, s)
		checkReadHandle(t, s)
		if n, ok := digit.Read(s); ok && digit.Show(n) != s {
			t.Errorf("%q is told as %q", s, digit.Show(n))
		}
		if h, ok := digit.ReadHandle(s); ok && digit.ShowHandle(h) != s {
			t.Errorf("%q is told as %q", s, digit.ShowHandle(h))
		}
	})
}
