package name_test

import (
	"fmt"
	"math"
	"math/rand"
	"slices"
	"strings"
	"testing"
	"unicode/utf8"

	"rickyard/api"
	"rickyard/name"
)

// A piece is a rune of a text, and the octets that it is there.
type piece struct {
	r      rune
	octets string
}

// encoded is a rune as UTF-8 has it; nothing, if UTF-8 has none such.
func encoded(r rune) string {
	tail := func(shift int) byte { return 0x80 | byte(r>>shift)&0x3f }
	switch {
	case r < 0 || r > 0x10ffff || r >= 0xd800 && r <= 0xdfff:
		return ""
	case r < 0x80:
		return string([]byte{byte(r)})
	case r < 0x800:
		return string([]byte{0xc0 | byte(r>>6), tail(0)})
	case r < 0x10000:
		return string([]byte{0xe0 | byte(r>>12), tail(6), tail(0)})
	}
	return string([]byte{0xf0 | byte(r>>18), tail(12), tail(6), tail(0)})
}

// payload is what the octets would be, if they were one rune: its form isn't looked at, as what it makes is encoded again.
func payload(octets string) rune {
	first := [5]byte{0, 0x7f, 0x1f, 0x0f, 0x07}[len(octets)]
	r := rune(octets[0] & first)
	for i := 1; i < len(octets); i++ {
		r = r<<6 | rune(octets[i]&0x3f)
	}
	return r
}

// pieces are a text's, worked out without the language's own ranging: the octets that are one rune encoded, or else one octet.
func pieces(s string) []piece {
	var out []piece
	for s != "" {
		next := piece{0xfffd, s[:1]}
		for size := 1; size <= 4 && size <= len(s); size++ {
			if r := payload(s[:size]); encoded(r) == s[:size] {
				next = piece{r, s[:size]}
			}
		}
		out = append(out, next)
		s = s[len(next.octets):]
	}
	return out
}

func runes(s string) []rune {
	var out []rune
	for _, p := range pieces(s) {
		out = append(out, p.r)
	}
	return out
}

const ascii = "abcdefghijklmnopqrstuvwxyzABCDEFGHIJKLMNOPQRSTUVWXYZ0123456789-_"

func of(r rune) bool {
	if r >= 0 && r < 0x80 {
		return strings.IndexByte(ascii, byte(r)) >= 0
	}
	return r >= 0xa1 && r <= 0xffef
}

func right(s string) bool {
	rs := runes(s)
	return len(rs) >= 1 && len(rs) <= 8 && !slices.ContainsFunc(rs, func(r rune) bool { return !of(r) })
}

func compare(a, b string) int {
	x, y := runes(a), runes(b)
	for i := 0; i < len(x) && i < len(y); i++ {
		if x[i] < y[i] {
			return -1
		}
		if x[i] > y[i] {
			return 1
		}
	}
	switch {
	case len(x) < len(y):
		return -1
	case len(x) > len(y):
		return 1
	}
	return 0
}

func cut(s string, n int) string {
	out := ""
	for i, p := range pieces(s) {
		if i < n {
			out += p.octets
		}
	}
	return out
}

func show(s string) string {
	out := ""
	for _, p := range pieces(s) {
		if of(p.r) {
			out += p.octets
		} else {
			out += fmt.Sprintf("<%x>", p.r)
		}
	}
	return out
}

// names are texts that are names, and those at the edges among them.
var names = []string{
	"a", "z", "A", "Z", "0", "9", "-", "_", "ab", "Zz-_09", "--------", "________", "12345678", "abcdefgh",
	"ß", "日本", "日本語日本語日本", "é", "e\u0301", "\u00a1", "\u00ad", "\u07ff", "\u0800", "\u2003", "\u200b", "\u2028", "\u3000", "\ud7ff", "\ue000", "\ufeff", "\uffef",
	"\uffef\uffef\uffef\uffef\uffef\uffef\uffef\uffef", "ßßßßßßßß", "a\u00a1\u0800b",
}

// wrong are texts that are no names.
var wrong = []string{
	"", " ", "  ", "a b", " a", "a ", "\t", "a\t", "a\n", "\na", "\r", "\x00", "a\x00", "\x00a", "\x1b", "\x7f", "a\x7f", "\u0080", "\u009f", "\u00a0", "a\u00a0b",
	".", "a.b", ",", "/", ":", "@", "[", "`", "{", "+", "*", "^", "<", ">", "<20>", "a<b", "'", "\"", "\\", "~", "!", "#",
	"\ufff0", "\ufff9", "\ufffd", "a\ufffd", "\ufffe", "\uffff", "\U00010000", "\U0001f600", "a\U0001f600", "\U0010ffff",
	"123456789", "日本語日本語日本語", "ßßßßßßßßß", "abcdefgh ", "abcdefgh\xff", "\xffabcdefgh", "abcdefg ", "abcdefg\xff", "\uffef\uffef\uffef\uffef\uffef\uffef\uffef\uffef\uffef",
	"\xff", "\xfe", "\x80", "\xbf", "a\x80", "\x80a", "\xffa", "\xc3", "a\xc3", "\xc3a", "\xe6", "\xe6\x97", "\xe6\x97a", "a\xff\xe6\x97日", "\xf0\x9f\x98", "\xf0\x9f", "\xf0",
	"\xc0\x80", "\xc1\xa1", "\xc0\xad", "\xe0\x81\xa1", "\xe0\x82\xa1", "\xe0\x9f\xbf", "\xf0\x80\x81\xa1", "\xf0\x8f\xbf\xaf",
	"\xed\xa0\x80", "\xed\xad\xbf", "\xed\xbf\xbf", "a\xed\xa0\x80b", "\xf4\x90\x80\x80", "\xf5\x80\x80\x80", "\xf7\xbf\xbf\xbf", "\xf8\x88\x80\x80\x80", "\xfc\x84\x80\x80\x80\x80", "\xc3\x9f\x9f", "\xe6\x97\xa5\xa5",
}

// texts are the names, the others, short ones of all sorts of letters, and drawn ones.
func texts() []string {
	out := slices.Concat(names, wrong)
	letters := []string{"a", "b", "Z", " ", "ß", "日", "\ufffd", "\uffef", "\U0001f600", "\xff", "\xe6", "\x97", "\x00"}
	last := []string{""}
	for range 3 {
		var next []string
		for _, s := range last {
			for _, l := range letters {
				next = append(next, s+l)
			}
		}
		out = append(out, next...)
		last = next
	}
	r := rand.New(rand.NewSource(7))
	for range 2000 {
		s := ""
		for range r.Intn(12) {
			s += letters[r.Intn(len(letters))]
		}
		octets := make([]byte, r.Intn(12))
		for i := range octets {
			octets[i] = byte(r.Uint32() >> r.Intn(2)) // those above 127 more often than not
		}
		out = append(out, s, string(octets), s+string(octets))
	}
	slices.Sort(out)
	return slices.Compact(out)
}

// few are texts for all pairs.
func few() []string {
	all := texts()
	r := rand.New(rand.NewSource(8))
	out := slices.Concat(names, wrong, []string{"a", "aa", "aaa", "aab", "ab", "b", "ba", "a\xff", "a\xfe", "a\ufffd", "a\ufffda", "a\xffa", "a\xff\xfe"})
	for range 300 {
		out = append(out, all[r.Intn(len(all))])
	}
	return out
}

// edges are the numbers at the bounds of what a name has, of what a rune may be, and of its type.
func edges() []rune {
	out := []rune{math.MinInt32, math.MinInt32 + 1, math.MaxInt32 - 1, math.MaxInt32}
	for _, middle := range []rune{0, '-', '0', '9', 'A', 'Z', '_', 'a', 'z', 0x7f, 0x80, 0xa0, 0xa1, 0x7ff, 0x800, 0xd7ff, 0xd800, 0xdbff, 0xdc00, 0xdfff, 0xe000, 0xffef, 0xfff0, 0xfffd, 0xffff, 0x10000, 0x100a1, 0x10ffff, 0x110000, 1 << 16, 1 << 24} {
		for i := rune(-2); i <= 2; i++ {
			out = append(out, middle+i, -(middle + i), middle+i+math.MinInt32)
		}
	}
	return out
}

func TestRunes(t *testing.T) { // P4.1
	if got := name.Runes("aß日\U0001f600"); !slices.Equal(got, []rune{'a', 0xdf, 0x65e5, 0x1f600}) {
		t.Errorf("one to four octets: %x", got)
	}
	if got := name.Runes("a\xff\xe6\x97日\ufffd"); !slices.Equal(got, []rune{'a', 0xfffd, 0xfffd, 0xfffd, 0x65e5, 0xfffd}) {
		t.Errorf("octets with which none begins: %x", got)
	}
	for s, want := range map[string]int{"": 0, "\xff\xff\xff": 3, "\xe6\x97": 2, "\xf0\x9f\x98": 3, "\xc0\x80": 2, "\xed\xa0\x80": 3, "\xf4\x90\x80\x80": 4, "\xc3\x9f\x9f": 2, "\xc3\xc3\x9f": 2} {
		if got := name.Runes(s); len(got) != want {
			t.Errorf("%q: %x", s, got)
		}
	}
	for _, s := range texts() {
		if got := name.Runes(s); !slices.Equal(got, runes(s)) {
			t.Errorf("%q: %x, not %x", s, got, runes(s))
		}
	}
}

func TestRunesOfEachRune(t *testing.T) { // P4.1
	for r := rune(0); r <= utf8.MaxRune; r++ {
		s := encoded(r)
		if s == "" {
			continue
		}
		if got := name.Runes(s); len(got) != 1 || got[0] != r {
			t.Errorf("%U: %x", r, got)
		}
	}
	for a := range 256 {
		for b := range 256 {
			for _, s := range []string{string([]byte{byte(a), byte(b)}), string([]byte{byte(a), byte(b), 0x80}), string([]byte{byte(a), byte(b), 0xbf, 0x80})} {
				if got := name.Runes(s); !slices.Equal(got, runes(s)) {
					t.Errorf("%q: %x, not %x", s, got, runes(s))
				}
			}
		}
	}
}

func TestRunesAreNew(t *testing.T) { // P4.1: an answer is new memory
	s := "aß日"
	first := name.Runes(s)
	second := name.Runes(s)
	for i := range first {
		first[i] = 'x'
	}
	_ = append(first, 'y')
	if !slices.Equal(second, []rune{'a', 0xdf, 0x65e5}) || !slices.Equal(name.Runes(s), second) || s != "aß日" {
		t.Errorf("%x, %q", second, s)
	}
}

func TestOf(t *testing.T) { // P4.1
	for _, r := range []rune{'a', 'm', 'z', 'A', 'M', 'Z', '0', '5', '9', '-', '_', 0xa1, 0xdf, 0x65e5, 0xd800, 0xdbff, 0xdc00, 0xdfff, 0xe000, 0xfeff, 0xffef} {
		if !name.Of(r) {
			t.Errorf("%U is none", r)
		}
	}
	for _, r := range []rune{0, ' ', '\n', ',', '.', '/', ':', '@', '[', '^', '`', '{', 0x7f, 0x80, 0xa0, 0xfff0, 0xfffd, 0xffff, 0x10000, 0x10041, 0x100a1, 0x10ffff, 0x110000, -1, -0xa1, -'a', math.MinInt32, math.MinInt32 + 'a', math.MaxInt32} {
		if name.Of(r) {
			t.Errorf("%U is one", r)
		}
	}
	for _, r := range edges() {
		if name.Of(r) != of(r) {
			t.Errorf("%d: %v", r, name.Of(r))
		}
	}
	for r := rune(-0x12000); r <= utf8.MaxRune+0x12000; r++ {
		if name.Of(r) != of(r) {
			t.Errorf("%d: %v", r, name.Of(r))
		}
	}
}

func TestRight(t *testing.T) { // P4.1
	for _, s := range names {
		if !name.Right(s) {
			t.Errorf("%q is none", s)
		}
	}
	for _, s := range wrong {
		if name.Right(s) {
			t.Errorf("%q is one", s)
		}
	}
	for _, s := range texts() {
		if name.Right(s) != right(s) {
			t.Errorf("%q: %v", s, name.Right(s))
		}
	}
}

func TestRightByItsRunes(t *testing.T) { // P4.1
	for r := rune(0); r <= utf8.MaxRune; r++ {
		s := encoded(r)
		if s == "" {
			continue
		}
		if name.Right(s) != of(r) || name.Right("abcdefg"+s) != of(r) || name.Right(s+"abcdefg") != of(r) || name.Right("abcdefgh"+s) {
			t.Errorf("%U", r)
		}
	}
	for i := range 256 {
		s := string([]byte{byte(i)})
		if want := i < 0x80 && of(rune(i)); name.Right(s) != want || name.Right("a"+s) != want {
			t.Errorf("octet %x", i)
		}
	}
}

func TestRightByItsLength(t *testing.T) { // P4.1
	for _, letter := range []string{"a", "ß", "日", "\uffef"} {
		for i := range 40 {
			if s := strings.Repeat(letter, i); name.Right(s) != (i >= 1 && i <= api.MaxRunes) {
				t.Errorf("%q", s)
			}
		}
	}
}

func TestCompare(t *testing.T) { // P4.2
	for _, c := range []struct {
		a, b string
		want int
	}{
		{"", "", 0}, {"", "a", -1}, {"", "\x00", -1}, {"", "\xff", -1}, {"a", "a", 0}, {"a", "b", -1}, {"a", "ab", -1}, {"ab", "abc", -1}, {"ab", "b", -1}, {"aa", "ab", -1}, {"Z", "a", -1}, {"9", "A", -1}, {"-", "0", -1}, {"_", "a", -1},
		{"z", "ß", -1}, {"ß", "日", -1}, {"日", "日本", -1}, {"\uffef", "\U00010000", -1}, {"\U0010ffff", "\U0010ffff", 0},
		{"\xff", "\xfe", 0}, {"\xff", "\ufffd", 0}, {"\xff\x80", "\ufffd\ufffd", 0}, {"a\xffb", "a\xe6b", 0}, {"\xff", "\xff\xff", -1}, {"\xffa", "\xfeb", -1}, {"\xfeb", "\xfec", -1},
		{"\uffef", "\x80", -1}, {"日", "\xe6", -1}, {"\xff", "\uffff", -1}, {"\xff", "\U0001f600", -1}, {"\xf0\x9f\x98", "\U0001f600", -1}, {"\xff", "\ufffda", -1}, {"\ufffd", "\xffa", -1},
	} {
		if got := name.Compare(c.a, c.b); got != c.want {
			t.Errorf("%q, %q: %d", c.a, c.b, got)
		}
		if got := name.Compare(c.b, c.a); got != -c.want {
			t.Errorf("%q, %q: %d", c.b, c.a, got)
		}
	}
	some := few()
	for _, a := range some {
		for _, b := range some {
			if got := name.Compare(a, b); got != compare(a, b) {
				t.Errorf("%q, %q: %d", a, b, got)
			}
		}
	}
}

func TestCompareIsByOctets(t *testing.T) { // P4.2
	some := few()
	for _, a := range some {
		for _, b := range some {
			if utf8.ValidString(a) && utf8.ValidString(b) && name.Compare(a, b) != strings.Compare(a, b) {
				t.Errorf("%q, %q: %d", a, b, name.Compare(a, b))
			}
		}
	}
	before := ""
	for r := rune(0); r <= utf8.MaxRune; r++ {
		if s := encoded(r); s != "" {
			if name.Compare(before, s) != -1 || name.Compare(s, before) != 1 || name.Compare(s, s) != 0 {
				t.Errorf("%U", r)
			}
			before = s
		}
	}
}

func TestNamesAreShort(t *testing.T) { // P4.2: of 24 octets at most
	longest := 0
	for _, s := range texts() {
		if name.Right(s) {
			longest = max(longest, len(s))
		}
	}
	if longest != 24 {
		t.Errorf("%d octets", longest)
	}
}

func TestCut(t *testing.T) { // P4.3
	for _, c := range []struct {
		s    string
		n    int
		want string
	}{
		{"", 0, ""}, {"", 1, ""}, {"", -1, ""}, {"", math.MaxInt, ""}, {"", math.MinInt, ""},
		{"ab", -1, ""}, {"ab", 0, ""}, {"ab", 1, "a"}, {"ab", 2, "ab"}, {"ab", 3, "ab"}, {"ab", 5, "ab"}, {"ab", math.MaxInt, "ab"}, {"ab", math.MinInt, ""}, {"ab", math.MinInt + 1, ""},
		{"日本", 1, "日"}, {"日本", 2, "日本"}, {"日本", 3, "日本"}, {"aß日\U0001f600", 1, "a"}, {"aß日\U0001f600", 2, "aß"}, {"aß日\U0001f600", 3, "aß日"}, {"aß日\U0001f600", 4, "aß日\U0001f600"},
		{"\xffa", 1, "\xff"}, {"\xff\xfe\xfd", 2, "\xff\xfe"}, {"\xe6\x97日", 1, "\xe6"}, {"\xe6\x97日", 2, "\xe6\x97"}, {"\xe6\x97日", 3, "\xe6\x97日"}, {"\ufffd\xff", 1, "\ufffd"}, {"\x00\x00", 1, "\x00"}, {"a b", 2, "a "}, {"123456789", 8, "12345678"},
	} {
		if got := name.Cut(c.s, c.n); got != c.want {
			t.Errorf("%q, %d: %q", c.s, c.n, got)
		}
	}
	for _, s := range texts() {
		for n := -2; n <= len(s)+2; n++ {
			if got := name.Cut(s, n); got != cut(s, n) {
				t.Errorf("%q, %d: %q", s, n, got)
			}
		}
	}
}

func TestShow(t *testing.T) { // P4.3
	for s, want := range map[string]string{
		"": "", "a b": "a<20>b", " ": "<20>", "\x00": "<0>", "\x01": "<1>", "\t": "<9>", "\n": "<a>", "\x0f": "<f>", "\x10": "<10>", "\x7f": "<7f>", "<": "<3c>", ">": "<3e>", "<20>": "<3c>20<3e>",
		"\u0080": "<80>", "\u00a0": "<a0>", "\u00a1": "\u00a1", "\uffef": "\uffef", "\ufff0": "<fff0>", "\ufffd": "<fffd>", "\uffff": "<ffff>", "\U00010000": "<10000>", "\U0001f600": "<1f600>", "\U000abcde": "<abcde>", "\U0010ffff": "<10ffff>",
		"\xff": "<fffd>", "a b\xff\x00": "a<20>b<fffd><0>", "\xe6\x97日": "<fffd><fffd>日", "\xed\xa0\x80": "<fffd><fffd><fffd>", "ß日": "ß日", "123456789": "123456789", "  ": "<20><20>",
	} {
		if got := name.Show(s); got != want {
			t.Errorf("%q: %q", s, got)
		}
	}
	for _, s := range texts() {
		if got := name.Show(s); got != show(s) {
			t.Errorf("%q: %q", s, got)
		}
	}
	for r := rune(0); r <= utf8.MaxRune; r++ {
		if s := encoded(r); name.Show(s) != show(s) {
			t.Errorf("%U: %q", r, name.Show(s))
		}
	}
}

func TestNamesAreShownAsTheyAre(t *testing.T) { // P4.4
	for _, s := range names {
		if name.Show(s) != s {
			t.Errorf("%q: %q", s, name.Show(s))
		}
	}
	for _, s := range texts() {
		asItIs := !slices.ContainsFunc(runes(s), func(r rune) bool { return !of(r) })
		if got := name.Show(s); (got == s) != asItIs || name.Right(s) && got != s {
			t.Errorf("%q: %q", s, got)
		}
	}
}

func TestCutIsABeginning(t *testing.T) { // P4.4
	for _, s := range texts() {
		all := name.Runes(s)
		for _, n := range []int{math.MinInt, -1, 0, 1, 2, 3, 7, 8, 9, len(all) - 1, len(all), len(all) + 1, math.MaxInt} {
			got := name.Cut(s, n)
			if many := min(max(n, 0), len(all)); !strings.HasPrefix(s, got) || !slices.Equal(name.Runes(got), all[:many]) || n >= len(all) && got != s {
				t.Errorf("%q, %d: %q", s, n, got)
			}
		}
	}
}

func TestLongTexts(t *testing.T) { // P4.1 to P4.4
	const many = 1 << 18
	for _, letter := range []string{"a", "日", " ", "\xff", "\U0001f600", "\x00"} {
		s := strings.Repeat(letter, many)
		if name.Right(s) || len(name.Runes(s)) != many || name.Show(s) != strings.Repeat(show(letter), many) {
			t.Errorf("many %q", letter)
		}
		if name.Cut(s, many-1) != s[len(letter):] || name.Cut(s, many) != s || name.Cut(s, many+1) != s || name.Cut(s, 1) != letter {
			t.Errorf("many %q, cut", letter)
		}
		if name.Compare(s, s+"a") != -1 || name.Compare(s+"a", s) != 1 || name.Compare(s+"a", s+"b") != -1 || name.Compare(s, strings.Clone(s)) != 0 {
			t.Errorf("many %q, compared", letter)
		}
	}
}

func FuzzTexts(f *testing.F) { // P4.1 to P4.4: any octets
	for i, s := range slices.Concat(names, wrong) {
		f.Add(s, names[i%len(names)], i-5)
	}
	f.Fuzz(func(t *testing.T, a, b string, n int) {
		if !slices.Equal(name.Runes(a), runes(a)) || name.Right(a) != right(a) || name.Show(a) != show(a) || name.Cut(a, n) != cut(a, n) {
			t.Errorf("%q, %d", a, n)
		}
		if name.Compare(a, b) != compare(a, b) || name.Compare(b, a) != -compare(a, b) {
			t.Errorf("%q, %q", a, b)
		}
	})
}
