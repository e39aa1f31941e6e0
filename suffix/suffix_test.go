package suffix_test

import (
	"fmt"
	"slices"
	"strings"
	"testing"

	"seine/suffix"
)

// everyByte is each byte once, rising.
func everyByte() string {
	var l []byte
	for b := range 256 {
		l = append(l, byte(b))
	}
	return string(l)
}

// backwards is a text from its last byte to its first.
func backwards(text string) string {
	l := []byte(text)
	slices.Reverse(l)
	return string(l)
}

// flip is a text whose bytes' order is turned round: 0 for 255, 1 for 254, and so on.
func flip(text string) string {
	l := []byte(text)
	for i := range l {
		l[i] = 255 - l[i]
	}
	return string(l)
}

// fibonacci is two bytes by no turns: each text is the two ahead of it, joined.
func fibonacci(n int) string {
	a, b := "b", "a"
	for range n {
		a, b = b, b+a
	}
	return b
}

// short are all texts of at most n bytes, of some bytes.
func short(some string, n int) []string {
	all, last := []string{""}, []string{""}
	for range n {
		var next []string
		for _, text := range last {
			for i := range len(some) {
				next = append(next, text+some[i:i+1])
			}
		}
		all, last = append(all, next...), next
	}
	return all
}

// texts are ordinary texts, and edges.
func texts() []string {
	return []string{
		"",
		"a",
		"\x00",
		"\xff",
		"\n",
		"ab",
		"ba",
		"aa",
		strings.Repeat("a", 37),
		strings.Repeat("\x00", 8),
		strings.Repeat("\xff", 9),
		"banana",
		"abcabcab",
		"aabaabaa",
		"the Seine, the Marne, the Oise, the Seine",
		"Seine\nseine\nSEINE\n",
		strings.Repeat("ab", 12),
		strings.Repeat("ab", 12) + "a",
		strings.Repeat("ba", 12),
		strings.Repeat("ba", 12) + "b",
		"aaaaaaab",
		"baaaaaaa",
		"abbbbbbb",
		"bbbbbbba",
		"aaabaaaa",
		"bbbabbbb",
		"aabaacaabaa",
		strings.Repeat("aabaac", 5) + "aab",
		strings.Repeat("seine ", 7),
		strings.Repeat("seine ", 7) + "sei",
		"abacabadabacaba",
		fibonacci(5),
		fibonacci(8),
		fibonacci(8)[3:],
		backwards(fibonacci(8)),
		"\x7f\x80\x7f\x80\x7f",
		"\x00\xff\x00\xff",
		"\xff\x00\xff\x00",
		"\xc3\xa4\xc3\xb6\xc3\xa4",
		"\x80a\x80a",
		everyByte(),
		backwards(everyByte()),
		everyByte() + everyByte(),
		everyByte() + everyByte()[:100],
		backwards(everyByte())[100:] + everyByte(),
	}
}

// lessOf is Less, by the words alone: turned, it is the order of the bytes that are turned round.
func lessOf(a, b string, turned bool) bool {
	if turned {
		a, b = flip(a), flip(b)
	}
	return a < b
}

// isPeriod tells whether a number is a text's period, by the words alone.
func isPeriod(text string, p int) bool {
	for i := 0; i+p < len(text); i++ {
		if text[i] != text[i+p] {
			return false
		}
	}
	return p >= 1 && p <= len(text)
}

// isBorder tells whether a text has a border of n bytes, by the words alone.
func isBorder(text string, n int) bool {
	return n >= 1 && n < len(text) && text[:n] == text[len(text)-n:]
}

// periodOf is Period, by the words alone.
func periodOf(text string) int {
	for p := 1; p <= len(text); p++ {
		if isPeriod(text, p) {
			return p
		}
	}
	return 0
}

// bordersOf is Borders, by the words alone.
func bordersOf(text string) []int {
	var l []int
	for n := len(text) - 1; n > 0; n-- {
		if isBorder(text, n) {
			l = append(l, n)
		}
	}
	return l
}

// maxOf is Max, by the words alone: each end is held against the greatest one of those that are longer.
func maxOf(text string, turned bool) (int, int) {
	at := 0
	for i := range len(text) {
		if lessOf(text[at:], text[i:], turned) {
			at = i
		}
	}
	return at, periodOf(text[at:])
}

// check holds all that is answered of one text against the words.
func check(t *testing.T, text string) {
	t.Helper()
	for _, turned := range []bool{false, true} {
		at, per := suffix.Max([]byte(text), turned)
		if wantAt, wantPer := maxOf(text, turned); at != wantAt || per != wantPer {
			t.Errorf("Max of %.60q, turned %v: %d, %d, not %d, %d", text, turned, at, per, wantAt, wantPer)
		}
	}
	if got, want := suffix.Period([]byte(text)), periodOf(text); got != want {
		t.Errorf("Period of %.60q: %d, not %d", text, got, want)
	}
	if got, want := suffix.Borders([]byte(text)), bordersOf(text); !slices.Equal(got, want) {
		t.Errorf("Borders of %.60q: %v, not %v", text, got, want)
	}
}

func TestTextsAreTheWords(t *testing.T) {
	for _, text := range texts() {
		check(t, text)
		check(t, backwards(text))
		check(t, flip(text))
		check(t, text+text)
		check(t, text+"\x00"+text)
		check(t, text+"\xff"+text)
	}
}

// All short texts of two bytes, and of three.
func TestShortTextsAreTheWords(t *testing.T) {
	for _, text := range short("ab", 14) {
		check(t, text)
	}
	for _, text := range short("\x00\x80\xff", 8) {
		check(t, text)
	}
}

// Each beginning and each end of the texts, where what was held has just begun, or is cut off.
func TestBeginningsAndEndsAreTheWords(t *testing.T) {
	for _, text := range texts() {
		for i := range min(len(text), 80) {
			check(t, text[:i])
			check(t, text[len(text)-i:])
		}
	}
}

// A short text several times over, cut off behind each byte, with other bytes ahead of it and behind it.
func TestRepeatsAreTheWords(t *testing.T) {
	for _, text := range short("ab", 6)[1:] {
		long := strings.Repeat(text, 4)
		for n := range len(long) + 1 {
			check(t, long[:n])
			for _, other := range []string{"\x00", "a", "b", "\xff"} {
				check(t, long[:n]+other)
				check(t, other+long[:n])
			}
		}
	}
}

// P11.1

func TestLess(t *testing.T) {
	for _, x := range []struct {
		name   string
		a, b   string
		less   bool
		turned bool
	}{
		{"two empty texts", "", "", false, false},
		{"the empty text and another one", "", "a", true, true},
		{"another one and the empty text", "a", "", false, false},
		{"the empty text and the least byte", "", "\x00", true, true},
		{"the empty text and the greatest byte", "", "\xff", true, true},
		{"the greatest byte and the empty text", "\xff", "", false, false},
		{"a text and itself", "seine", "seine", false, false},
		{"a byte and itself", "a", "a", false, false},
		{"a lesser byte", "a", "b", true, false},
		{"a greater byte", "b", "a", false, true},
		{"0 and 255", "\x00", "\xff", true, false},
		{"255 and 0", "\xff", "\x00", false, true},
		{"0 and 1", "\x00", "\x01", true, false},
		{"255 and 254", "\xff", "\xfe", false, true},
		{"127 and 128", "\x7f", "\x80", true, false},
		{"128 and 127", "\x80", "\x7f", false, true},
		{"a large letter and a small one", "B", "a", true, false},
		{"a beginning", "sei", "seine", true, true},
		{"what goes on", "seine", "sei", false, false},
		{"what goes on by 0", "a\x00", "a", false, false},
		{"what goes on by 255", "a\xff", "a", false, false},
		{"an end that begins with another one", "ana", "anana", true, true},
		{"such ones the other way round", "anana", "ana", false, false},
		{"unlike in the first byte", "aeine", "seine", true, false},
		{"unlike in the last byte", "seine", "seinf", true, false},
		{"unlike in the last byte, the other way round", "seinf", "seine", false, true},
		{"unlike in the middle", "sezne", "seine", false, true},
		{"unlike in several: the first one counts", "azz", "baa", true, false},
		{"unlike in several, the other way round", "baa", "azz", false, true},
		{"the lesser byte, and more bytes", "ab", "b", true, false},
		{"the greater byte, and fewer bytes", "b", "ab", false, true},
		{"the greater byte, and more bytes", "ba", "a", false, true},
		{"the lesser byte, and fewer bytes", "a", "ba", true, false},
		{"unlike behind the place where one ends", "aab", "aaab", false, true},
	} {
		if got := suffix.Less([]byte(x.a), []byte(x.b), false); got != x.less {
			t.Errorf("%s: Less of %q and %q is %v", x.name, x.a, x.b, got)
		}
		if got := suffix.Less([]byte(x.a), []byte(x.b), true); got != x.turned {
			t.Errorf("%s: Less of %q and %q, turned, is %v", x.name, x.a, x.b, got)
		}
	}
}

// Each two bytes, alone and behind the same ones.
func TestLessOfEachTwoBytes(t *testing.T) {
	for a := range 256 {
		for b := range 256 {
			for _, ahead := range []string{"", "se"} {
				one, other := []byte(ahead+string([]byte{byte(a)})), []byte(ahead+string([]byte{byte(b)}))
				if got := suffix.Less(one, other, false); got != (a < b) {
					t.Errorf("Less of %q and %q is %v", one, other, got)
				}
				if got := suffix.Less(one, other, true); got != (a > b) {
					t.Errorf("Less of %q and %q, turned, is %v", one, other, got)
				}
			}
		}
	}
}

func TestLessOfShortTexts(t *testing.T) {
	for _, l := range [][]string{short("ab", 6), short("\x00\x7f\xff", 4), texts()} {
		for _, a := range l {
			for _, b := range l {
				for _, turned := range []bool{false, true} {
					if got, want := suffix.Less([]byte(a), []byte(b), turned), lessOf(a, b, turned); got != want {
						t.Errorf("Less of %.60q and %.60q, turned %v: %v", a, b, turned, got)
					}
				}
			}
		}
	}
}

func TestMax(t *testing.T) {
	for _, x := range []struct {
		name    string
		text    string
		at, per int
		on, p   int // turned
	}{
		{"the empty text", "", 0, 0, 0, 0},
		{"one byte", "a", 0, 1, 0, 1},
		{"the least byte", "\x00", 0, 1, 0, 1},
		{"the greatest byte", "\xff", 0, 1, 0, 1},
		{"one byte twice", "aa", 0, 1, 0, 1},
		{"one byte many times", strings.Repeat("a", 100), 0, 1, 0, 1},
		{"two that rise", "ab", 1, 1, 0, 2},
		{"two that fall", "ba", 0, 2, 1, 1},
		{"rising", "abcdefgh", 7, 1, 0, 8},
		{"falling", "hgfedcba", 0, 8, 7, 1},
		{"every byte, rising", everyByte(), 255, 1, 0, 256},
		{"every byte, falling", backwards(everyByte()), 0, 256, 255, 1},
		{"two by turns, even", "abababab", 1, 2, 0, 2},
		{"two by turns, odd", "ababababa", 1, 2, 0, 2},
		{"two by turns from the greater one, even", "babababa", 0, 2, 1, 2},
		{"two by turns from the greater one, odd", "babababab", 0, 2, 1, 2},
		{"the greatest byte last", "aaaab", 4, 1, 0, 5},
		{"the greatest byte first", "baaaa", 0, 5, 1, 1},
		{"the least byte last", "bbbba", 0, 5, 4, 1},
		{"the least byte first", "abbbb", 1, 1, 0, 5},
		{"in the middle", "aabbaa", 2, 4, 0, 4},
		{"the document's example", "banana", 2, 2, 1, 2},
		{"the chapter's example", "abcabcab", 2, 3, 0, 3},
		{"a longer run later", "babba", 2, 3, 1, 3},
		{"a longer run earlier", "bbabba", 0, 3, 2, 3},
		{"runs that are the same", "babab", 0, 2, 1, 2},
		{"a period that is broken late", "abababc", 6, 1, 0, 7},
		{"a period that is broken late, falling", "babababa\x00", 0, 9, 8, 1},
		{"the second one goes on longer", "abaababa", 4, 2, 2, 5},
		{"0 and 255", "\x00\xff\x00", 1, 2, 0, 2},
		{"255 and 0", "\xff\x00\xff", 0, 2, 1, 2},
		{"127 and 128", "\x7f\x80\x7f\x7f", 1, 3, 2, 1},
		{"a newline is a byte", "a\nb\n", 2, 2, 1, 2},
	} {
		if at, per := suffix.Max([]byte(x.text), false); at != x.at || per != x.per {
			t.Errorf("%s: Max of %.60q is %d, %d, not %d, %d", x.name, x.text, at, per, x.at, x.per)
		}
		if on, p := suffix.Max([]byte(x.text), true); on != x.on || p != x.p {
			t.Errorf("%s: Max of %.60q, turned, is %d, %d, not %d, %d", x.name, x.text, on, p, x.on, x.p)
		}
	}
}

// Each other end is Less than the greatest one, as Less itself tells.
func TestEachOtherEndIsLess(t *testing.T) {
	for _, text := range append(texts(), short("ab", 8)...) {
		b := []byte(text)
		for _, turned := range []bool{false, true} {
			at, per := suffix.Max(b, turned)
			for i := range b {
				if got := suffix.Less(b[i:], b[at:], turned); got != (i != at) {
					t.Errorf("of %.60q, turned %v, from %d on: Less than that from %d on is %v", text, turned, i, at, got)
				}
			}
			if per != suffix.Period(b[at:]) {
				t.Errorf("of %.60q, turned %v: the end's period is %d, not %d", text, turned, suffix.Period(b[at:]), per)
			}
		}
	}
}

// Turned, a text has the answers that the text whose bytes are turned round has.
func TestTurnedIsTheOtherOrder(t *testing.T) {
	for _, text := range append(texts(), short("abc", 6)...) {
		for _, turned := range []bool{false, true} {
			at, per := suffix.Max([]byte(text), turned)
			on, p := suffix.Max([]byte(flip(text)), !turned)
			if at != on || per != p {
				t.Errorf("of %.60q, turned %v: %d, %d, and turned round: %d, %d", text, turned, at, per, on, p)
			}
		}
	}
}

// P11.2

func TestPeriodAndBorders(t *testing.T) {
	for _, x := range []struct {
		name    string
		text    string
		period  int
		borders []int
	}{
		{"the empty text", "", 0, nil},
		{"one byte", "a", 1, nil},
		{"the byte 0", "\x00", 1, nil},
		{"the byte 255", "\xff", 1, nil},
		{"two unlike bytes", "ab", 2, nil},
		{"one byte twice", "aa", 1, []int{1}},
		{"one byte five times", "aaaaa", 1, []int{4, 3, 2, 1}},
		{"the document's example", "banana", 6, nil},
		{"its end", "anana", 2, []int{3, 1}},
		{"the chapter's example", "abcabcab", 3, []int{5, 2}},
		{"borders that lie over each other", "aabaabaa", 3, []int{5, 2, 1}},
		{"a border that lies over itself", "ababa", 2, []int{3, 1}},
		{"a border of just a half", "abab", 2, []int{2}},
		{"a border that doesn't reach the middle", "abcab", 3, []int{2}},
		{"a border of one byte", "abca", 3, []int{1}},
		{"a border in a border", "abacaba", 4, []int{3, 1}},
		{"borders in borders", "abacabadabacaba", 8, []int{7, 3, 1}},
		{"rising", "abcdefgh", 8, nil},
		{"falling", "hgfedcba", 8, nil},
		{"a period that divides the length", "abcabcabc", 3, []int{6, 3}},
		{"a period that doesn't", "abcabca", 3, []int{4, 1}},
		{"one that divides it, beside a border that doesn't come of it", "abaaba", 3, []int{3, 1}},
		{"twice", "seineseine", 5, []int{5}},
		{"several times over, cut off", "seineseineseinese", 5, []int{12, 7, 2}},
		{"a first byte that breaks it", "xabab", 5, nil},
		{"a last byte that breaks it", "ababx", 5, nil},
		{"a last byte that breaks it to a shorter one", "aabaaa", 4, []int{2, 1}},
		{"a last byte that breaks it to one byte", "abababaa", 7, []int{1}},
		{"large letters are other bytes", "Aba", 3, nil},
		{"0 and 255", "\x00\xff\x00", 2, []int{1}},
		{"beyond 127", "\x80\xff\x80\xff", 2, []int{2}},
		{"every byte twice", everyByte() + everyByte(), 256, []int{256}},
	} {
		if got := suffix.Period([]byte(x.text)); got != x.period {
			t.Errorf("%s: Period of %.60q is %d, not %d", x.name, x.text, got, x.period)
		}
		if got := suffix.Borders([]byte(x.text)); !slices.Equal(got, x.borders) {
			t.Errorf("%s: Borders of %.60q are %v, not %v", x.name, x.text, got, x.borders)
		}
	}
}

// P11.3

// Each period below the length leaves a border, each border leaves a period, and nothing else does.
func TestPeriodsAreWhatBordersLeave(t *testing.T) {
	for _, text := range append(texts(), short("ab", 11)...) {
		b, n := []byte(text), len(text)
		borders := suffix.Borders(b)
		for p := 1; p < n; p++ {
			if slices.Contains(borders, n-p) != isPeriod(text, p) {
				t.Errorf("of %.60q: %d is a period: %v, but the borders are %v", text, p, isPeriod(text, p), borders)
			}
		}
		for i, k := range borders {
			if k < 1 || k >= n || i > 0 && borders[i-1] <= k {
				t.Errorf("of %.60q: the borders are %v", text, borders)
			}
		}
		least := n
		if len(borders) > 0 {
			least = n - borders[0]
		}
		if got := suffix.Period(b); got != least {
			t.Errorf("of %.60q: Period is %d, but the borders are %v", text, got, borders)
		}
	}
}

// Long texts, whose answers their form tells.
func TestLongTexts(t *testing.T) {
	const n = 1 << 15
	same := strings.Repeat("a", n)
	turns := strings.Repeat("abc", n) + "ab"
	for _, x := range []struct {
		name            string
		text            string
		at, per         int
		on, p           int
		period, borders int // the least period, how many borders
	}{
		{"one byte", same, 0, 1, 0, 1, 1, n - 1},
		{"one byte, the last one greater", same + "b", n, 1, 0, n + 1, n + 1, 0},
		{"one byte, the first one greater", "b" + same, 0, n + 1, 1, 1, n + 1, 0},
		{"one byte, one in the middle greater", same + "b" + same, n, n + 1, 0, n + 1, n + 1, n},
		{"one byte, one in the middle less", same + "\x00" + same, 0, n + 1, n, n + 1, n + 1, n},
		{"three by turns", turns, 2, 3, 0, 3, 3, n},
		{"three by turns, the last one greater", turns + "d", 3*n + 2, 1, 0, 3*n + 3, 3*n + 3, 0},
		{"three by turns, the last one less", turns + "\x00", 2, 3*n + 1, 3*n + 2, 1, 3*n + 3, 0},
	} {
		b := []byte(x.text)
		if at, per := suffix.Max(b, false); at != x.at || per != x.per {
			t.Errorf("%s: Max is %d, %d, not %d, %d", x.name, at, per, x.at, x.per)
		}
		if on, p := suffix.Max(b, true); on != x.on || p != x.p {
			t.Errorf("%s: Max, turned, is %d, %d, not %d, %d", x.name, on, p, x.on, x.p)
		}
		if got := suffix.Period(b); got != x.period {
			t.Errorf("%s: Period is %d, not %d", x.name, got, x.period)
		}
		borders := suffix.Borders(b)
		if len(borders) != x.borders {
			t.Errorf("%s: %d borders, not %d", x.name, len(borders), x.borders)
		}
		for i, k := range borders {
			if i > 0 && borders[i-1] <= k || x.text[:k] != x.text[len(b)-k:] {
				t.Fatalf("%s: %d is told as a border", x.name, k)
			}
		}
	}
}

// Two long texts that are unlike in their last byte, or of which one is the other's beginning.
func TestLessOfLongTexts(t *testing.T) {
	same := strings.Repeat("seine ", 1<<15)
	for _, x := range []struct {
		name         string
		a, b         string
		less, turned bool
	}{
		{"the last byte less", same + "a", same + "b", true, false},
		{"the last byte greater", same + "b", same + "a", false, true},
		{"a beginning", same, same + "a", true, true},
		{"what goes on", same + "a", same, false, false},
		{"one text", same, same, false, false},
		{"the first byte less", "a" + same, "b" + same, true, false},
	} {
		if got := suffix.Less([]byte(x.a), []byte(x.b), false); got != x.less {
			t.Errorf("%s: %v", x.name, got)
		}
		if got := suffix.Less([]byte(x.a), []byte(x.b), true); got != x.turned {
			t.Errorf("%s, turned: %v", x.name, got)
		}
	}
}

// DOC.md, rules 3 and 4

// answers is all that is answered of two texts.
func answers(a, b []byte) string {
	var l []any
	for _, text := range [][]byte{a, b} {
		at, per := suffix.Max(text, false)
		on, p := suffix.Max(text, true)
		l = append(l, at, per, on, p, suffix.Period(text), slices.Clone(suffix.Borders(text)))
	}
	l = append(l, suffix.Less(a, b, false), suffix.Less(a, b, true), suffix.Less(b, a, false), suffix.Less(b, a, true))
	return fmt.Sprint(l...)
}

// roomy is a text with bytes behind it, and all of its memory.
func roomy(text string) ([]byte, []byte) {
	whole := []byte(text + text + "behind")
	return whole[:len(text)], whole
}

// spoil changes all bytes of a text, and those behind it where there is room.
func spoil(b []byte) {
	b = b[:cap(b)]
	for i := range b {
		b[i] = '~'
	}
}

// What is nil and what is empty is one.
func TestNilIsEmpty(t *testing.T) {
	empty := []byte("a")[:0]
	for _, b := range [][]byte{nil, {}, empty} {
		for _, turned := range []bool{false, true} {
			if at, per := suffix.Max(b, turned); at != 0 || per != 0 {
				t.Errorf("Max of %#v, turned %v: %d, %d", b, turned, at, per)
			}
			for _, other := range [][]byte{nil, {}, empty} {
				if suffix.Less(b, other, turned) {
					t.Errorf("%#v is Less than %#v, turned %v", b, other, turned)
				}
			}
			if !suffix.Less(b, []byte{0}, turned) || suffix.Less([]byte{255}, b, turned) {
				t.Errorf("%#v isn't Less than other texts, turned %v", b, turned)
			}
		}
		if suffix.Period(b) != 0 || len(suffix.Borders(b)) != 0 {
			t.Errorf("of %#v: Period %d, Borders %v", b, suffix.Period(b), suffix.Borders(b))
		}
	}
}

func TestTextsAreNeitherChangedNorKept(t *testing.T) {
	for _, text := range texts() {
		a, wholeA := roomy(text)
		b, wholeB := roomy(backwards(text))
		first := answers(a, b)
		if string(wholeA) != text+text+"behind" || string(wholeB) != backwards(text)+backwards(text)+"behind" {
			t.Errorf("%.60q was changed", text)
		}
		borders := suffix.Borders(a)
		spoil(a)
		spoil(b)
		if !slices.Equal(borders, bordersOf(text)) {
			t.Errorf("%.60q is kept: its borders are %v", text, borders)
		}
		if again := answers([]byte(text), []byte(backwards(text))); again != first {
			t.Errorf("%.60q: first %s, then %s", text, first, again)
		}
	}
}

// Bytes behind a text, in its memory, play no part.
func TestWhatIsBehindPlaysNoPart(t *testing.T) {
	for _, text := range texts() {
		b, _ := roomy(text)
		if got, want := answers(b, b), answers([]byte(text), []byte(text)); got != want {
			t.Errorf("%.60q: %s, not %s", text, got, want)
		}
	}
}

// Two arguments may be of one memory: two ends of one text, or one text and itself.
func TestArgumentsOfOneMemory(t *testing.T) {
	b := []byte("abaababa")
	for i := range len(b) + 1 {
		for j := range len(b) + 1 {
			for _, turned := range []bool{false, true} {
				if got, want := suffix.Less(b[i:], b[j:], turned), lessOf(string(b[i:]), string(b[j:]), turned); got != want {
					t.Errorf("from %d on and from %d on, turned %v: %v", i, j, turned, got)
				}
				if got, want := suffix.Less(b[:i], b[:j], turned), i < j; got != want {
					t.Errorf("the first %d and the first %d, turned %v: %v", i, j, turned, got)
				}
			}
		}
	}
	if string(b) != "abaababa" {
		t.Errorf("the text was changed to %q", b)
	}
}

func TestBordersAreNewMemory(t *testing.T) {
	for _, text := range texts() {
		b := []byte(text)
		one, other := suffix.Borders(b), suffix.Borders(b)
		for i := range one {
			one[i] = -7
		}
		one = append(one, -7)
		if want := bordersOf(text); !slices.Equal(other, want) || !slices.Equal(suffix.Borders(b), want) {
			t.Errorf("%.60q: %v changes with %v", text, other, one)
		}
	}
}

func TestSameCallsSameAnswers(t *testing.T) {
	var first []string
	for range 3 {
		var now []string
		for _, text := range texts() {
			now = append(now, answers([]byte(text), []byte(flip(text))))
		}
		slices.Reverse(now)
		if first == nil {
			first = now
		}
		if !slices.Equal(first, now) {
			t.Errorf("first %v, then %v", first, now)
		}
	}
}
