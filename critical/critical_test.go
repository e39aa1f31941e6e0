package critical_test

import (
	"fmt"
	"math"
	"slices"
	"strings"
	"testing"

	"seine/critical"
	"seine/suffix"
)

// everyByte is each byte once, rising.
func everyByte() string {
	var l []byte
	for b := range 256 {
		l = append(l, byte(b))
	}
	return string(l)
}

// backwards is a text from its last byte to its first.
func backwards(text string) string {
	l := []byte(text)
	slices.Reverse(l)
	return string(l)
}

// flip is a text whose bytes' order is turned round: 0 for 255, 1 for 254, and so on.
func flip(text string) string {
	l := []byte(text)
	for i := range l {
		l[i] = 255 - l[i]
	}
	return string(l)
}

// fibonacci is two bytes by no turns: each text is the two ahead of it, joined.
func fibonacci(n int) string {
	a, b := "b", "a"
	for range n {
		a, b = b, b+a
	}
	return b
}

// short are all texts of at most n bytes, of some bytes.
func short(some string, n int) []string {
	all, last := []string{""}, []string{""}
	for range n {
		var next []string
		for _, text := range last {
			for i := range len(some) {
				next = append(next, text+some[i:i+1])
			}
		}
		all, last = append(all, next...), next
	}
	return all
}

// texts are ordinary texts, and edges.
func texts() []string {
	return []string{
		"",
		"a",
		"\x00",
		"\xff",
		"\n",
		"ab",
		"ba",
		"aa",
		strings.Repeat("a", 37),
		strings.Repeat("\x00", 8),
		strings.Repeat("\xff", 9),
		"banana",
		"abcabcab",
		"aabaabaa",
		"the Seine, the Marne, the Oise, the Seine",
		"Seine\nseine\nSEINE\n",
		strings.Repeat("ab", 12),
		strings.Repeat("ab", 12) + "a",
		strings.Repeat("ba", 12),
		strings.Repeat("ba", 12) + "b",
		"aaaaaaab",
		"baaaaaaa",
		"abbbbbbb",
		"bbbbbbba",
		"aaabaaaa",
		"bbbabbbb",
		"aabaacaabaa",
		strings.Repeat("aabaac", 5) + "aab",
		strings.Repeat("seine ", 7),
		strings.Repeat("seine ", 7) + "sei",
		"abacabadabacaba",
		fibonacci(5),
		fibonacci(8),
		fibonacci(8)[3:],
		backwards(fibonacci(8)),
		"\x7f\x80\x7f\x80\x7f",
		"\x00\xff\x00\xff",
		"\xff\x00\xff\x00",
		"\xc3\xa4\xc3\xb6\xc3\xa4",
		"\x80a\x80a",
		everyByte(),
		backwards(everyByte()),
		everyByte() + everyByte(),
		everyByte() + everyByte()[:100],
		backwards(everyByte())[100:] + everyByte(),
	}
}

// outside are places that no text of at most n bytes has.
func outside(n int) []int {
	return []int{-1, -2, -n, -n - 1, n + 1, n + 2, 2*n + 1, math.MinInt, math.MinInt + 1, math.MaxInt, math.MaxInt - 1, math.MinInt32, math.MaxInt32, 1 << 32, -1 << 32}
}

// less tells whether an end of a text is ahead of another, by the words alone: turned, it is the order of the bytes that are turned round.
func less(a, b string, turned bool) bool {
	if turned {
		a, b = flip(a), flip(b)
	}
	return a < b
}

// periodOf is a text's least period, by the words alone.
func periodOf(text string) int {
	for p := 1; p < len(text); p++ {
		if text[p:] == text[:len(text)-p] {
			return p
		}
	}
	return len(text)
}

// maxOf is where the greatest end of a text begins, and its least period, by the words alone.
func maxOf(text string, turned bool) (int, int) {
	at := 0
	for i := range len(text) {
		if less(text[at:], text[i:], turned) {
			at = i
		}
	}
	return at, periodOf(text[at:])
}

// factorOf is Factor, by the words alone.
func factorOf(text string) critical.Split {
	n := len(text)
	if n == 0 {
		return critical.Split{}
	}
	at, p := maxOf(text, false)
	if on, q := maxOf(text, true); on > at {
		at, p = on, q
	}
	if text[:at] == text[p:p+at] {
		return critical.Split{At: at, Per: p, Small: true}
	}
	return critical.Split{At: at, Per: 1 + max(at, n-at)}
}

// isLocal tells whether a number is a period at a place of a text, by the words alone.
func isLocal(text string, at, p int) bool {
	for i := at - p; i < at; i++ {
		if i >= 0 && i+p < len(text) && text[i] != text[i+p] {
			return false
		}
	}
	return p >= 1
}

// localOf is Local, by the words alone.
func localOf(text string, at int) int {
	if at < 0 || at > len(text) {
		return 0
	}
	p := 1
	for !isLocal(text, at, p) {
		p++
	}
	return p
}

// check holds all that is answered of one text against the words.
func check(t *testing.T, text string) {
	t.Helper()
	b := []byte(text)
	if got, want := critical.Factor(b), factorOf(text); got != want {
		t.Errorf("Factor of %.60q: %+v, not %+v", text, got, want)
	}
	for at := -1; at <= len(text)+1; at++ {
		if got, want := critical.Local(b, at), localOf(text, at); got != want {
			t.Errorf("Local of %.60q at %d: %d, not %d", text, at, got, want)
		}
	}
}

// follows holds what is answered of one text that isn't empty against P12.3.
func follows(t *testing.T, text string) {
	t.Helper()
	b := []byte(text)
	s, period := critical.Factor(b), suffix.Period(b)
	if s.At < 0 || s.At >= period {
		t.Errorf("of %.60q: At is %d, the period %d", text, s.At, period)
	}
	if got := critical.Local(b, s.At); got != period {
		t.Errorf("of %.60q: Local at At, %d, is %d, the period %d", text, s.At, got, period)
	}
	if s.Small && s.Per != period {
		t.Errorf("of %.60q: it is Small, Per is %d, the period %d", text, s.Per, period)
	}
	// What isn't Small has a Per that no period is below.
	if s.Per < 1 || s.Per > period {
		t.Errorf("of %.60q: Per is %d, the period %d", text, s.Per, period)
	}
}

func TestTextsAreTheWords(t *testing.T) {
	for _, text := range texts() {
		check(t, text)
		check(t, backwards(text))
		check(t, flip(text))
		check(t, text+text)
		check(t, text+"\x00"+text)
		check(t, text+"\xff"+text)
	}
}

// All short texts of two bytes, and of three.
func TestShortTextsAreTheWords(t *testing.T) {
	for _, text := range short("ab", 13) {
		check(t, text)
	}
	for _, text := range short("\x00\x80\xff", 8) {
		check(t, text)
	}
}

// Each beginning and each end of the texts.
func TestBeginningsAndEndsAreTheWords(t *testing.T) {
	for _, text := range texts() {
		for i := range min(len(text), 60) {
			check(t, text[:i])
			check(t, text[len(text)-i:])
		}
	}
}

// A short text several times over, cut off behind each byte, also with its first byte, or its last one, turned to another.
func TestRepeatsAreTheWords(t *testing.T) {
	for _, text := range short("ab", 6)[1:] {
		long := strings.Repeat(text, 4)
		for n := 1; n <= len(long); n++ {
			check(t, long[:n])
			for _, other := range []string{"\x00", "a", "b", "\xff"} {
				check(t, long[:n-1]+other)
				check(t, other+long[1:n])
			}
		}
	}
}

// P12.1

func TestFactor(t *testing.T) {
	for _, x := range []struct {
		name    string
		text    string
		at, per int
		small   bool
	}{
		{"the empty text", "", 0, 0, false},
		{"one byte", "a", 0, 1, true},
		{"the byte 0", "\x00", 0, 1, true},
		{"the byte 255", "\xff", 0, 1, true},
		{"a newline", "\n", 0, 1, true},
		{"two unlike bytes, rising", "ab", 1, 2, false},
		{"two unlike bytes, falling", "ba", 1, 2, false},
		{"0 and 255", "\x00\xff", 1, 2, false},
		{"255 and 0", "\xff\x00", 1, 2, false},
		{"127 and 128", "\x7f\x80", 1, 2, false},
		{"one byte twice", "aa", 0, 1, true},
		{"one byte nine times", "aaaaaaaaa", 0, 1, true},
		{"255 three times", "\xff\xff\xff", 0, 1, true},
		{"rising", "abcdefgh", 7, 8, false},
		{"falling", "hgfedcba", 7, 8, false},
		{"the chapter's example", "abcabcab", 2, 3, true},
		{"the chapter's other example", "banana", 2, 5, false},
		{"that one's end", "anana", 1, 2, true},
		{"two bytes by turns", "abab", 1, 2, true},
		{"two bytes by turns, cut off", "ababa", 1, 2, true},
		{"two bytes by turns, the greater one first", "baba", 1, 2, true},
		{"both ends from the first byte on", "aaaa", 0, 1, true},
		{"both ends from the first byte on, 0", "\x00\x00", 0, 1, true},
		{"the turned end ahead", "banan", 2, 4, false},
		{"the turned end ahead, Small", "abcab", 2, 3, true},
		{"the turned end at the first byte", "aabb", 2, 3, false},
		{"the turned end behind", "cabb", 1, 4, false},
		{"the turned end behind, Small", "bbabb", 2, 3, true},
		{"the turned end behind, the other one at the first byte", "bbaa", 2, 3, false},
		{"a cut behind the middle", "aaab", 3, 4, false},
		{"a cut behind the middle, and a period's part", "aaabaaab", 3, 4, true},
		{"a cut behind the middle, Small, cut off", "aaabaaa", 3, 4, true},
		{"a cut behind the middle, with a byte behind it", "aaabx", 4, 5, false},
		{"a cut in the middle", "aabb", 2, 3, false},
		{"a cut ahead of the middle", "abbb", 1, 4, false},
		{"a cut ahead of the middle, the turned one", "baaa", 1, 4, false},
		{"an end with a lesser period than the text's", "abaab", 2, 3, true},
		{"an end whose period goes on but for one byte ahead", "aababab", 2, 6, false},
		{"several times over", "seineseineseine", 1, 5, true},
		{"several times over, cut off in its middle", "seineseineseinesei", 1, 5, true},
		{"several times over, but for its first byte", "xeineseineseine", 1, 15, false},
		{"several times over, but for its last byte", "seineseineseinx", 14, 15, false},
		{"twice, but for its first byte", "bbabab", 2, 5, false},
		{"twice, but for its last byte", "abcabd", 5, 6, false},
		{"unlike just ahead of the cut", "ccabab", 2, 5, false},
		{"large letters are other bytes", "Aa", 1, 2, false},
		{"beyond 127, by turns", "\x80\xff\x80\xff", 1, 2, true},
		{"beyond 127, Small", "a\x80\x80a", 1, 3, true},
		{"beyond 127 is greater, not less", "\x80\x00\x7f", 1, 3, false},
		{"0 and 255 by turns", "\x00\xff\x00\xff\x00", 1, 2, true},
		{"every byte, rising", everyByte(), 255, 256, false},
		{"every byte, falling", backwards(everyByte()), 255, 256, false},
		{"every byte twice", everyByte() + everyByte(), 255, 256, true},
	} {
		want := critical.Split{At: x.at, Per: x.per, Small: x.small}
		if got := critical.Factor([]byte(x.text)); got != want {
			t.Errorf("%s: Factor of %.60q is %+v, not %+v", x.name, x.text, got, want)
		}
	}
}

// What is asked of suffix alone: the later one of its two ends, and that one's period.
func TestFactorIsTheLaterEnd(t *testing.T) {
	ahead, behind, one := 0, 0, 0
	for _, text := range append(texts(), short("abc", 7)...) {
		b := []byte(text)
		at, p := suffix.Max(b, false)
		on, q := suffix.Max(b, true)
		switch {
		case on > at:
			at, p = on, q
			behind++
		case on < at:
			ahead++
		default:
			one++
		}
		s := critical.Factor(b)
		if s.At != at || s.Small && s.Per != p {
			t.Errorf("of %.60q: %+v, the later end's %d, %d", text, s, at, p)
		}
		if !s.Small && len(b) > 0 && s.Per != max(at, len(b)-at)+1 {
			t.Errorf("of %.60q: not Small, Per %d", text, s.Per)
		}
		if len(b) > 0 && s.Small != (text[:at] == text[p:p+at]) {
			t.Errorf("of %.60q: Small is %v", text, s.Small)
		}
	}
	if ahead == 0 || behind == 0 || one == 0 {
		t.Errorf("the turned end: %d times ahead, %d times behind, %d times at one place", ahead, behind, one)
	}
}

// The order of bytes may be turned round as a whole: the two ends change their parts.
func TestFactorOfTurnedBytes(t *testing.T) {
	for _, text := range append(texts(), short("abc", 7)...) {
		if one, other := critical.Factor([]byte(text)), critical.Factor([]byte(flip(text))); one != other {
			t.Errorf("of %.60q: %+v, and turned round: %+v", text, one, other)
		}
	}
}

// P12.2

func TestLocal(t *testing.T) {
	for _, x := range []struct {
		name string
		text string
		want []int // at each place, from 0 to behind the last byte
	}{
		{"the empty text", "", []int{1}},
		{"one byte", "a", []int{1, 1}},
		{"the byte 0", "\x00", []int{1, 1}},
		{"the byte 255", "\xff", []int{1, 1}},
		{"two unlike bytes", "ab", []int{1, 2, 1}},
		{"0 and 255", "\x00\xff", []int{1, 2, 1}},
		{"one byte twice", "aa", []int{1, 1, 1}},
		{"one byte five times", "aaaaa", []int{1, 1, 1, 1, 1, 1}},
		{"rising", "abcd", []int{1, 4, 4, 4, 1}},
		{"falling", "dcba", []int{1, 4, 4, 4, 1}},
		{"two bytes by turns", "abab", []int{1, 2, 2, 2, 1}},
		{"two bytes by turns, cut off", "ababa", []int{1, 2, 2, 2, 2, 1}},
		{"borders that lie over each other", "abaab", []int{1, 2, 3, 1, 3, 1}},
		{"the chapter's example", "abcabcab", []int{1, 3, 3, 3, 3, 3, 3, 3, 1}},
		{"the chapter's other example", "banana", []int{1, 6, 6, 2, 2, 2, 1}},
		{"all bytes ahead stand further on", "abxabyz", []int{1, 3, 3, 7, 7, 7, 7, 1}},
		{"all bytes behind stand further ahead", "zybaxba", []int{1, 7, 7, 7, 7, 3, 3, 1}},
		{"the last byte another one", "aaab", []int{1, 1, 1, 4, 1}},
		{"the first byte another one", "baaa", []int{1, 4, 1, 1, 1}},
		{"the middle one another one", "aabaa", []int{1, 1, 3, 3, 1, 1}},
		{"beyond 127", "\x80\xff\x80", []int{1, 2, 2, 1}},
		{"large letters are other bytes", "aA", []int{1, 2, 1}},
	} {
		b := []byte(x.text)
		for at, want := range x.want {
			if got := critical.Local(b, at); got != want {
				t.Errorf("%s: Local of %q at %d is %d, not %d", x.name, x.text, at, got, want)
			}
		}
		if len(x.want) != len(x.text)+1 {
			t.Errorf("%s: %d places", x.name, len(x.want))
		}
	}
}

func TestLocalAtNoPlace(t *testing.T) {
	for _, text := range texts() {
		for _, at := range outside(len(text)) {
			if at >= 0 && at <= len(text) {
				continue
			}
			if got := critical.Local([]byte(text), at); got != 0 {
				t.Errorf("Local of %.60q at %d: %d", text, at, got)
			}
		}
	}
}

// At a text's front and at its end there is nothing to hold against each other.
func TestLocalAtTheEnds(t *testing.T) {
	for _, text := range texts() {
		for _, at := range []int{0, len(text)} {
			if got := critical.Local([]byte(text), at); got != 1 {
				t.Errorf("Local of %.60q at %d: %d", text, at, got)
			}
		}
	}
}

// A text's period is one at each place, so that none is above it; there are places where it is 1, where it is the text's, and where it lies between.
func TestLocalIsAtMostThePeriod(t *testing.T) {
	one, whole, between := 0, 0, 0
	for _, text := range append(texts(), short("abc", 6)...) {
		b, period := []byte(text), max(periodOf(text), 1)
		for at := range len(b) + 1 {
			switch p := critical.Local(b, at); {
			case p < 1 || p > period:
				t.Errorf("Local of %.60q at %d is %d, the period %d", text, at, p, period)
			case p == 1:
				one++
			case p == period:
				whole++
			default:
				between++
			}
		}
	}
	if one == 0 || whole == 0 || between == 0 {
		t.Errorf("1 %d times, the period %d times, between %d times", one, whole, between)
	}
}

// Backwards the places are counted from the other end.
func TestLocalBackwards(t *testing.T) {
	for _, text := range append(texts(), short("abc", 6)...) {
		for at := range len(text) + 1 {
			one, other := critical.Local([]byte(text), at), critical.Local([]byte(backwards(text)), len(text)-at)
			if one != other {
				t.Errorf("Local of %.60q at %d: %d, backwards %d", text, at, one, other)
			}
		}
	}
}

// P12.3

func TestWhatFollows(t *testing.T) {
	for _, text := range append(texts(), append(short("ab", 13), short("abc", 8)...)...) {
		if text != "" {
			follows(t, text)
			follows(t, backwards(text))
		}
	}
}

func TestWhatFollowsOfRepeats(t *testing.T) {
	for _, text := range texts() {
		for _, long := range []string{text + text, text + text + text, text + "a" + text, text + "\xff" + text} {
			for _, cut := range []int{0, 1, len(text) / 2} {
				if cut < len(long) {
					follows(t, long[cut:])
					follows(t, long[:len(long)-cut])
				}
			}
		}
	}
}

// Long texts, whose answers their form tells.
func TestLongTexts(t *testing.T) {
	const n = 1 << 15
	same := strings.Repeat("a", n)
	turns := strings.Repeat("abc", n)
	for _, x := range []struct {
		name  string
		text  string
		split critical.Split
		local map[int]int // at some places
	}{
		{"one byte", same, critical.Split{At: 0, Per: 1, Small: true}, map[int]int{0: 1, 1: 1, n / 2: 1, n: 1, n + 1: 0}},
		{"one byte, the last one greater", same + "b", critical.Split{At: n, Per: n + 1}, map[int]int{n: n + 1, n - 1: 1, n + 1: 1}},
		{"one byte, the last one less", same + "\x00", critical.Split{At: n, Per: n + 1}, map[int]int{n: n + 1, n - 1: 1, n + 1: 1}},
		{"one byte, the first one greater", "b" + same, critical.Split{At: 1, Per: n + 1}, map[int]int{1: n + 1, 2: 1, 0: 1}},
		{"one byte, one in the middle greater", same + "b" + same, critical.Split{At: n, Per: n + 1, Small: true}, map[int]int{n: n + 1, n + 1: n + 1, 1: 1, n + 2: 1}},
		{"one byte, one in the middle less", same + "\x00" + same, critical.Split{At: n, Per: n + 1, Small: true}, map[int]int{n: n + 1, n + 1: n + 1, 1: 1, n + 2: 1}},
		{"three by turns", turns, critical.Split{At: 2, Per: 3, Small: true}, map[int]int{0: 1, 1: 3, n: 3, 3*n - 1: 3, 3 * n: 1}},
		{"three by turns, cut off", turns + "ab", critical.Split{At: 2, Per: 3, Small: true}, map[int]int{1: 3, 3 * n: 3, 3*n + 1: 3}},
		{"three by turns, but for the last one", turns + "abd", critical.Split{At: 3*n + 2, Per: 3*n + 3}, map[int]int{2: 3, 3*n - 1: 3, 3*n + 2: 3*n + 3}},
		{"three by turns, but for the first one", "xbc" + turns, critical.Split{At: 3, Per: 3*n + 1}, map[int]int{1: 3*n + 3, 2: 3*n + 3, 3: 3*n + 3, 4: 3}},
	} {
		b := []byte(x.text)
		if got := critical.Factor(b); got != x.split {
			t.Errorf("%s: Factor is %+v, not %+v", x.name, got, x.split)
		}
		for at, want := range x.local {
			if got := critical.Local(b, at); got != want {
				t.Errorf("%s: Local at %d is %d, not %d", x.name, at, got, want)
			}
		}
		follows(t, x.text)
	}
	follows(t, fibonacci(20))
	follows(t, fibonacci(20)[7:])
	follows(t, backwards(fibonacci(20)))
}

// DOC.md, rules 3 and 4

// answers is all that is answered of a text.
func answers(b []byte) string {
	l := []any{critical.Factor(b)}
	for at := -1; at <= len(b)+1; at++ {
		l = append(l, critical.Local(b, at))
	}
	return fmt.Sprint(l...)
}

// roomy is a text with bytes behind it, and all of its memory.
func roomy(text string) ([]byte, []byte) {
	whole := []byte(text + text + "behind")
	return whole[:len(text)], whole
}

// spoil changes all bytes of a text, and those behind it where there is room.
func spoil(b []byte) {
	b = b[:cap(b)]
	for i := range b {
		b[i] = '~'
	}
}

// What is nil and what is empty is one.
func TestNilIsEmpty(t *testing.T) {
	for _, b := range [][]byte{nil, {}, []byte("a")[:0]} {
		if got := critical.Factor(b); got != (critical.Split{}) {
			t.Errorf("Factor of %#v: %+v", b, got)
		}
		if got := critical.Local(b, 0); got != 1 {
			t.Errorf("Local of %#v at 0: %d", b, got)
		}
		for _, at := range outside(0) {
			if at == 0 {
				continue
			}
			if got := critical.Local(b, at); got != 0 {
				t.Errorf("Local of %#v at %d: %d", b, at, got)
			}
		}
	}
}

func TestTextsAreNeitherChangedNorKept(t *testing.T) {
	for _, text := range texts() {
		b, whole := roomy(text)
		first := answers(b)
		if string(whole) != text+text+"behind" {
			t.Errorf("%.60q was changed", text)
		}
		spoil(b)
		if again := answers([]byte(text)); again != first {
			t.Errorf("%.60q: first %s, then %s", text, first, again)
		}
	}
}

// Bytes behind a text, in its memory, play no part.
func TestWhatIsBehindPlaysNoPart(t *testing.T) {
	for _, text := range texts() {
		b, _ := roomy(text)
		if got, want := answers(b), answers([]byte(text)); got != want {
			t.Errorf("%.60q: %s, not %s", text, got, want)
		}
	}
}

// What was answered is a value of its own.
func TestSplitsAreNewMemory(t *testing.T) {
	one := critical.Factor([]byte("abcabcab"))
	want := one
	one.At, one.Per, one.Small = -7, -7, false
	if got := critical.Factor([]byte("abcabcab")); got != want {
		t.Errorf("%+v changes with %+v", got, one)
	}
}

func TestSameCallsSameAnswers(t *testing.T) {
	var first []string
	for range 3 {
		var now []string
		for _, text := range texts() {
			now = append(now, answers([]byte(text)))
		}
		if first == nil {
			first = now
		}
		if !slices.Equal(first, now) {
			t.Errorf("first %v, then %v", first, now)
		}
	}
}
