package cwalter_test

import (
	"fmt"
	"slices"
	"strings"
	"testing"

	"seine/api"
	"seine/back"
	"seine/cwalter"
	"seine/pairs"
	"seine/shifts"
	"seine/sparse"
)

// asBytes is strings as texts, each in memory of its own.
func asBytes(l []string) [][]byte {
	var b [][]byte
	for _, text := range l {
		b = append(b, []byte(text))
	}
	return b
}

// build is New, of strings.
func build(texts ...string) *cwalter.Walter { return cwalter.New(asBytes(texts)...) }

// list is pairs, each by its start and its end.
func list(numbers ...int) []api.Pair {
	var l []api.Pair
	for i := 0; i < len(numbers); i += 2 {
		l = append(l, api.Pair{Start: numbers[i], End: numbers[i+1]})
	}
	return l
}

// model is the words: what fits is told by strings alone, how far to move by the two layers below.
type model struct {
	texts, ends map[string]bool
	tree        *back.Back
	moves       *shifts.Shifts
}

// modelOf is that of some texts.
func modelOf(texts []string) model {
	m := model{texts: map[string]bool{}, ends: map[string]bool{}, tree: back.Build(asBytes(texts)...)}
	m.moves = shifts.Build(m.tree)
	for _, text := range texts {
		if text == "" {
			continue
		}
		m.texts[text] = true
		for at := range len(text) {
			m.ends[text[at:]] = true
		}
	}
	return m
}

// fits is what fits at a window: the longest bytes ahead of its end whose every end is one of a text.
func (m model) fits(line string, end int) string {
	front := end
	for front > 0 && m.ends[line[front-1:end]] {
		front--
	}
	return line[front:end]
}

// next is where the window behind another one ends.
func (m model) next(line string, end int) int {
	fits := m.fits(line, end)
	node := m.tree.Find(back.Turn([]byte(fits)))
	if len(fits) < end {
		return end + m.moves.Far(node, line[end-len(fits)-1])
	}
	return end + m.moves.Second(node)
}

// windows are where the windows of a line end: P16.1.
func (m model) windows(line string) []int {
	var l []int
	if len(m.texts) == 0 {
		return l
	}
	for end := m.tree.Least(); end <= len(line); end = m.next(line, end) {
		l = append(l, end)
	}
	return l
}

// comeBy are the pairs of the texts that windows come by: P16.2.
func (m model) comeBy(line string) []api.Pair {
	var l []api.Pair
	for _, end := range m.windows(line) {
		for n := range len(m.fits(line, end)) {
			if start := end - n - 1; m.texts[line[start:end]] {
				l = append(l, api.Pair{Start: start, End: end})
			}
		}
	}
	slices.SortFunc(l, func(a, b api.Pair) int {
		if a.Start != b.Start {
			return a.Start - b.Start
		}
		return a.End - b.End
	})
	return l
}

// pieces are all pieces of a line that are texts: P16.3.
func (m model) pieces(line string) []api.Pair {
	var l []api.Pair
	for start := range len(line) {
		for end := start + 1; end <= len(line); end++ {
			if m.texts[line[start:end]] {
				l = append(l, api.Pair{Start: start, End: end})
			}
		}
	}
	return l
}

// fault tells what is answered of a line against the words; nothing, if that is all as they say.
func (m model) fault(w *cwalter.Walter, line string) string {
	if got, want := w.Ends([]byte(line)), m.windows(line); !slices.Equal(got, want) {
		return fmt.Sprintf("Ends of %.80q is %v, not %v", line, got, want)
	}
	got := w.Scan([]byte(line))
	if want := m.comeBy(line); !slices.Equal(got, want) {
		return fmt.Sprintf("Scan of %.80q is %v, but windows come by %v", line, got, want)
	}
	if want := m.pieces(line); !slices.Equal(got, want) {
		return fmt.Sprintf("Scan of %.80q is %v, but its pieces are %v", line, got, want)
	}
	return ""
}

// checkLines holds what is answered of some lines against the words. The first fault ends it, as one often makes a great many.
func checkLines(t *testing.T, name string, w *cwalter.Walter, m model, lines []string) {
	t.Helper()
	for _, line := range lines {
		if told := m.fault(w, line); told != "" {
			t.Fatalf("%s: %s", name, told)
		}
	}
}

// check holds one that is made of some texts against the words, in lines for these.
func check(t *testing.T, name string, w *cwalter.Walter, texts []string) {
	t.Helper()
	checkLines(t, name, w, modelOf(texts), linesFor(texts))
}

// textsUpTo are all texts of 1 to n bytes, of some bytes.
func textsUpTo(some string, n int) []string {
	var all []string
	last := []string{""}
	for range n {
		var next []string
		for _, text := range last {
			for i := range len(some) {
				next = append(next, text+some[i:i+1])
			}
		}
		all, last = append(all, next...), next
	}
	return all
}

// linesUpTo are all lines of at most n bytes, of some bytes.
func linesUpTo(some string, n int) []string { return append([]string{""}, textsUpTo(some, n)...) }

// setsOf are all sets of at most n of some texts, in their order.
func setsOf(texts []string, n int) [][]string {
	all := [][]string{nil}
	for i, text := range texts {
		if n > 0 {
			for _, rest := range setsOf(texts[i+1:], n-1) {
				all = append(all, append([]string{text}, rest...))
			}
		}
	}
	return all
}

// everyByte is each byte once, rising.
func everyByte() string {
	var b []byte
	for c := range 256 {
		b = append(b, byte(c))
	}
	return string(b)
}

// repeats are n texts of one byte, each an end of the next.
func repeats(c string, n int) []string {
	var l []string
	for i := range n {
		l = append(l, strings.Repeat(c, i+1))
	}
	return l
}

// reversed is a list from its last text to its first.
func reversed(l []string) []string {
	l = slices.Clone(l)
	slices.Reverse(l)
	return l
}

// long are ordinary lists, and edges that the short ones don't have.
func long() [][]string {
	return [][]string{
		nil,
		{""},
		{"", "", ""},
		{"a"},
		{"", "a", ""},
		{"abc", "bc"},
		{"abcd"},
		{"cab", "b"},
		{"he", "she", "his", "hers"},
		{"hers", "", "his", "she", "he", "she"},
		{"ab", "cab", "b", "dcab", ""},
		{"abcd", "bc"},
		{"abcde", "dexyz", "cdx", "ey"},
		{"abcabcab", "cabcab", "bcabca", "abcabc"},
		{"abacabadabacaba", "bacab", "acabad", "cabadab"},
		{"seine", "ei", "nes", "neines"},
		{"the Seine", "the Marne", "The Seine", "the Oise", "Seine, the", "\nSeine\n", ""},
		{"zabc", "yabcdk", "ghi"},
		{"\x00", "\x00\x00", "\x00\xff", "\xff", "\xff\x00", "\xff\xff", "\x00\x00\x00"},
		{"\x00\x00\x00\xff", "\xff\xff\xff", "\x00\xff\x00", "", "\x80\x7f\x80"},
		{"\xc3\x84\xc3\xa4", "\xc3\xa4\xc3\x84", "\u212a\u0130", "\xa4\xc3\x84x", "\xe2\x84\xaa\xc4"},
		{everyByte()},
		{everyByte(), everyByte()[:128], everyByte()[100:], "\xff\x00\x01\x02"},
		repeats("a", 12),
		reversed(repeats("\x00", 12)),
		repeats("\xff", 12)[5:],
		{strings.Repeat("a", 60), "b" + strings.Repeat("a", 40), strings.Repeat("a", 30) + "b"},
		{strings.Repeat("ab", 20), strings.Repeat("ba", 21), strings.Repeat("ab", 7)},
	}
}

// linesFor are lines for a list: its texts, joined, cut off, grown, and lines that have nothing to do with them.
func linesFor(texts []string) []string {
	all := strings.Join(texts, "")
	l := []string{
		"", "a", "ab", "b", "\x00", "\xff", "\n", "ushers", "shhe", "xyzzy", "abcdeabcdx", everyByte(),
		strings.Repeat("a", 70), strings.Repeat("ab", 45), strings.Repeat("\xff", 35) + "\x00\x00",
		all, all + all, "x" + all, strings.Join(reversed(texts), ""), strings.Join(texts, " "), strings.Join(texts, "\x00"),
	}
	for _, text := range texts[:min(len(texts), 12)] {
		half := text[:len(text)/2]
		rest := text[len(text)/2:]
		l = append(l, text, text+text, "s"+text+"h", "\xff"+text, text+"\x00", rest+text, half+text+half, text+rest+half)
		if text != "" {
			l = append(l, text[1:], text[:len(text)-1], text[1:]+text, text[:len(text)-1]+text)
		}
	}
	return l
}

func TestWalterIsTheWords(t *testing.T) {
	for _, texts := range long() {
		check(t, fmt.Sprintf("of %.60q", texts), build(texts...), texts)
	}
}

// Each list in the lines of each other one.
func TestWalterIsTheWordsInOtherLines(t *testing.T) {
	for _, texts := range long() {
		w, m := build(texts...), modelOf(texts)
		for _, other := range long() {
			checkLines(t, fmt.Sprintf("of %.60q", texts), w, m, []string{strings.Join(other, ""), strings.Join(other, "a")})
		}
	}
}

// All sets of short texts of two bytes, in all short lines of them: many short ones, fewer longer ones.
func TestShortTextsAreTheWords(t *testing.T) {
	for _, x := range []struct {
		some         string
		bytes, texts int
		line         int
	}{
		{"ab", 2, 6, 9},
		{"ba", 3, 3, 8},
		{"ab", 3, 4, 6},
		{"\x00\xff", 4, 2, 8},
		{"ab", 5, 2, 6},
		{"ab", 6, 1, 10},
	} {
		lines := linesUpTo(x.some, x.line)
		for _, texts := range setsOf(textsUpTo(x.some, x.bytes), x.texts) {
			checkLines(t, fmt.Sprintf("of %q", texts), build(texts...), modelOf(texts), lines)
		}
	}
}

// Bytes that stand in no text, or in some alone, move farther.
func TestShortTextsAreTheWordsWithMoreBytes(t *testing.T) {
	lines := linesUpTo("abx", 6)
	for _, texts := range append(setsOf(textsUpTo("ab", 3), 2), setsOf(textsUpTo("bx\x80", 3), 1)...) {
		checkLines(t, fmt.Sprintf("of %q", texts), build(texts...), modelOf(texts), lines)
	}
}

// In which order texts come, how often, and with how many empty ones, plays no part.
func TestOrderOfTextsPlaysNoPart(t *testing.T) {
	for _, texts := range long() {
		one := build(texts...)
		for _, same := range [][]string{reversed(texts), append(reversed(texts), texts...), append(append([]string{"", ""}, texts...), "")} {
			other := build(same...)
			for _, line := range linesFor(texts) {
				b := []byte(line)
				if !slices.Equal(one.Ends(b), other.Ends(b)) || !slices.Equal(one.Scan(b), other.Scan(b)) {
					t.Errorf("%.60q and %.60q aren't the same in %.60q", texts, same, line)
				}
			}
		}
	}
}

// P16.1

// Worked out by hand.
func TestEnds(t *testing.T) {
	for _, x := range []struct {
		name  string
		texts []string
		line  string
		want  []int
	}{
		{"the chapter's example", []string{"abc", "bc"}, "xabcx", []int{2, 4}},
		{"a line of bytes that stand nowhere", []string{"abcd"}, "xxxxxxxxabcd", []int{4, 8, 12}},
		{"no texts", nil, "aaa", nil},
		{"an empty text", []string{""}, "aaa", nil},
		{"several empty texts", []string{"", "", ""}, "aaa", nil},
		{"an empty text among others", []string{"", "ab", ""}, "xxab", []int{2, 4}},
		{"a text twice", []string{"ab", "ab"}, "xxab", []int{2, 4}},
		{"an empty line", []string{"a"}, "", nil},
		{"a line that is shorter than the shortest text", []string{"abc", "abcd"}, "ab", nil},
		{"a line that is one byte short", []string{"abc"}, "bc", nil},
		{"a line just as long", []string{"abc"}, "abc", []int{3}},
		{"a line just as long, of other bytes", []string{"abc", "abcd"}, "xyz", []int{3}},
		{"a line one byte longer, behind which a window would end", []string{"abc"}, "xabc", []int{3, 4}},
		{"a line one byte longer than a text that stands in front", []string{"abc"}, "abcx", []int{3}},
		{"a window that ends just at the line's end", []string{"abc"}, "xxxxxx", []int{3, 6}},
		{"one that would end one byte behind it", []string{"abc"}, "xxxxx", []int{3}},
		{"one that would end two bytes behind it", []string{"abc"}, "xxxx", []int{3}},
		{"the shortest text is in the middle", []string{"abcde", "xy", "fghi"}, "qqqqqq", []int{2, 4, 6}},
		{"one byte", []string{"a"}, "xax", []int{1, 2, 3}},
		{"one byte many times", []string{"aaa"}, "aaaaa", []int{3, 4, 5}},
		{"one byte many times, and another one", []string{"aaa"}, "aaxaaa", []int{3, 6}},
		{"two bytes by turns", []string{"abab"}, "abababab", []int{4, 6, 8}},
		{"two bytes by turns, the other way", []string{"abab"}, "babababa", []int{4, 5, 7}},
		// c is the last byte but one of abcd: the window is moved to where that would end.
		{"a byte that stands nearer to the end", []string{"abcd"}, "xxxcdxxx", []int{4, 5}},
		{"nothing fits, and the byte stands at a text's front", []string{"abcd"}, "xxxabcd", []int{4, 7}},
		{"nothing fits, and the byte stands in the middle", []string{"abcd"}, "xxabcdx", []int{4, 6}},
		{"nothing fits, and the byte stands in no text", []string{"abcd"}, "abcxabcd", []int{4, 8}},
		// abcdk goes on abc and is no whole text: First is 2, Second 3. Where the line begins Second is asked alone.
		{"the line begins ahead of what fits", []string{"zabc", "yabcdk", "ghi"}, "abcghi", []int{3, 6}},
		{"a byte stands ahead of what fits", []string{"zabc", "yabcdk", "ghi"}, "xabcghi", []int{3, 4, 6, 7}},
		{"a whole text fits, and the line begins", []string{"abc"}, "abcabc", []int{3, 6}},
		{"a whole text fits, and more does", []string{"bc", "abc"}, "abcabc", []int{2, 3, 5, 6}},
		// Nothing leads on from abc here, whatever stands ahead of it: Far and Second are 2 and 3 all the same.
		{"what fits leads nowhere, and the line begins", []string{"abc", "yabcdk"}, "abcxxx", []int{3, 6}},
		{"what fits leads nowhere, and a byte stands ahead", []string{"abc", "yabcdk"}, "xabcxx", []int{3, 4, 6}},
		{"a text's end is another one's front, and the line begins", []string{"abcde", "dexyz"}, "abcdexyz", []int{5, 8}},
		{"a text's end is another one's front, and a byte stands ahead", []string{"abcde", "dexyz"}, "qabcdexyzq", []int{5, 6, 9}},
		{"the byte 0", []string{"\x00\x00"}, "\x00\x00\x01\x00", []int{2, 3}},
		{"the byte 255", []string{"\xff\xfe"}, "\xfe\xff\xff\xfe", []int{2, 3, 4}},
		{"bytes beyond 127", []string{"\x80\x81\x82"}, "\x00\x01\x02\x80\x81\x82", []int{3, 6}},
		{"a large letter is another byte", []string{"abc"}, "ABCabc", []int{3, 6}},
		{"a newline is a byte", []string{"a\nb"}, "\n\n\na\nb", []int{3, 4, 6}},
	} {
		if got := build(x.texts...).Ends([]byte(x.line)); !slices.Equal(got, x.want) {
			t.Errorf("%s: of %q, in %q: %v, not %v", x.name, x.texts, x.line, got, x.want)
		}
	}
}

// No byte comes twice in the text, so a window ends behind the root's by as much as its byte stands ahead of the text's end.
func TestEndsOfEachByte(t *testing.T) {
	w := build(everyByte())
	for c := range 256 {
		line := strings.Repeat(string([]byte{byte(c)}), 256+300)
		move := max(255-c, 1)
		if c == 255 {
			// That byte fits, and no end goes on it.
			move = 256
		}
		var want []int
		for end := 256; end <= len(line); end += move {
			want = append(want, end)
		}
		if got := w.Ends([]byte(line)); !slices.Equal(got, want) {
			t.Errorf("the byte %d: %v, not %v", c, got, want)
		}
	}
}

func TestEndsRise(t *testing.T) {
	for _, texts := range long() {
		w, least := build(texts...), back.Build(asBytes(texts)...).Least()
		for _, line := range linesFor(texts) {
			ends := w.Ends([]byte(line))
			if least == 0 || len(line) < least {
				if len(ends) != 0 {
					t.Errorf("%.60q in %.60q: %v", texts, line, ends)
				}
				continue
			}
			if len(ends) == 0 || ends[0] != least || len(line)-ends[len(ends)-1] >= least {
				t.Errorf("%.60q in %.60q: %v", texts, line, ends)
			}
			for i := 1; i < len(ends); i++ {
				if move := ends[i] - ends[i-1]; move < 1 || move > least {
					t.Errorf("%.60q in %.60q: %v", texts, line, ends)
				}
			}
		}
	}
}

// P16.2

func TestScan(t *testing.T) {
	for _, x := range []struct {
		name  string
		texts []string
		line  string
		want  []api.Pair
	}{
		{"the chapter's example", []string{"abc", "bc"}, "xabcx", list(1, 4, 2, 4)},
		{"ordinary texts", []string{"he", "she", "his", "hers"}, "ushers", list(1, 4, 2, 4, 2, 6)},
		{"no texts", nil, "aaa", nil},
		{"an empty text", []string{""}, "aaa", nil},
		{"several empty texts", []string{"", "", ""}, "aaa", nil},
		{"an empty text among others", []string{"", "ab", ""}, "xxab", list(2, 4)},
		{"a text twice", []string{"ab", "ab"}, "xxab", list(2, 4)},
		{"an empty line", []string{"a"}, "", nil},
		{"a line that is shorter than the shortest text", []string{"abc", "abcd"}, "ab", nil},
		{"a line just as long", []string{"abc"}, "abc", list(0, 3)},
		{"a line one byte longer, a byte ahead", []string{"abc"}, "xabc", list(1, 4)},
		{"a line one byte longer, a byte behind", []string{"abc"}, "abcx", list(0, 3)},
		{"a line just as long, of other bytes", []string{"abc", "abcd"}, "xyz", nil},
		{"a line between the two texts' lengths", []string{"ab", "xxxxab"}, "xxab", list(2, 4)},
		{"nothing is found", []string{"ab", "bc"}, "acbbac", nil},
		{"a text's end alone", []string{"abc"}, "bcxbc", nil},
		{"a text's front alone", []string{"abc"}, "abxab", nil},
		{"begins in a text", []string{"ab"}, "abxx", list(0, 2)},
		{"ends in a text", []string{"ab"}, "xxxab", list(3, 5)},
		{"begins and ends in one", []string{"ab"}, "abxab", list(0, 2, 3, 5)},
		{"texts one behind the other", []string{"ab", "cde"}, "abcdeab", list(0, 2, 2, 5, 5, 7)},
		{"texts that overlap", []string{"abc", "cde"}, "abcde", list(0, 3, 2, 5)},
		{"a text that overlaps itself", []string{"aba"}, "ababa", list(0, 3, 2, 5)},
		{"a text within another one, not at its end", []string{"abcd", "bc"}, "xabcdx", list(1, 5, 2, 4)},
		{"a text at another one's front", []string{"abcd", "ab"}, "xabcdx", list(1, 3, 1, 5)},
		{"a text that is an end of another one", []string{"abcd", "cd"}, "xabcdx", list(1, 5, 3, 5)},
		{"an end of another one, first", []string{"cd", "abcd"}, "xabcdx", list(1, 5, 3, 5)},
		{"an end of another one that doesn't stand there", []string{"abcd", "cd"}, "xbcdx", list(2, 4)},
		{"several end at one place", []string{"d", "abcd", "cd", "bcd"}, "abcd", list(0, 4, 1, 4, 2, 4, 3, 4)},
		{"several begin at one place", []string{"abcd", "a", "abc", "ab"}, "abcd", list(0, 1, 0, 2, 0, 3, 0, 4)},
		{"one byte", []string{"a"}, "banana", list(1, 2, 3, 4, 5, 6)},
		{"one byte many times", []string{"aa"}, "aaaa", list(0, 2, 1, 3, 2, 4)},
		{"one byte, as often as you like", []string{"aa", "a"}, "aaa", list(0, 1, 0, 2, 1, 2, 1, 3, 2, 3)},
		{"two bytes by turns", []string{"abab"}, "abababab", list(0, 4, 2, 6, 4, 8)},
		{"two bytes by turns, the other way", []string{"abab"}, "babababa", list(1, 5, 3, 7)},
		{"where no line begins, what goes on an end", []string{"zabc", "yabcdk", "ghi"}, "abcghizabcyabcdk", list(3, 6, 6, 10, 10, 16)},
		{"the byte 0", []string{"\x00\x00"}, "\x00\x00\x00\x01\x00", list(0, 2, 1, 3)},
		{"the byte 255", []string{"\xff", "\xff\xfe"}, "\xfe\xff\xff\xfe", list(1, 2, 2, 3, 2, 4)},
		{"bytes beyond 127", []string{"\x80\x81"}, "\x00\x01\x80\x81\x80", list(2, 4)},
		{"a large letter is another byte", []string{"ab"}, "AbaBABab", list(6, 8)},
		{"a newline is a byte", []string{"a\nb", "\n"}, "xa\nb", list(1, 4, 2, 3)},
	} {
		if got := build(x.texts...).Scan([]byte(x.line)); !slices.Equal(got, x.want) {
			t.Errorf("%s: of %q, in %q: %v, not %v", x.name, x.texts, x.line, got, x.want)
		}
	}
}

func TestScanOfEachByte(t *testing.T) {
	for c := range 256 {
		text := string([]byte{byte(c)})
		line := everyByte() + text
		want := list(c, c+1, 256, 257)
		if c == 255 {
			want = list(255, 256, 255, 257, 256, 257)
		}
		if got := build(text, text+text).Scan([]byte(line)); !slices.Equal(got, want) {
			t.Errorf("the byte %d: %v, not %v", c, got, want)
		}
	}
}

func TestPairsRiseAndFit(t *testing.T) {
	for _, texts := range long() {
		w := build(texts...)
		for _, line := range linesFor(texts) {
			if l := w.Scan([]byte(line)); !pairs.Rising(l) || !pairs.Fits(l, len(line)) {
				t.Errorf("%.60q in %.60q: %v", texts, line, l)
			}
		}
	}
}

// nothing tells whether nothing is told of any line.
func nothing(w *cwalter.Walter) bool {
	for _, line := range append(linesFor([]string{"he", "she"}), strings.Repeat("a", 1000)) {
		if len(w.Ends([]byte(line))) != 0 || len(w.Scan([]byte(line))) != 0 {
			return false
		}
	}
	return len(w.Ends(nil)) == 0 && len(w.Scan(nil)) == 0
}

func TestNil(t *testing.T) {
	var w *cwalter.Walter
	if !nothing(w) {
		t.Error("a nil Walter tells something")
	}
}

func TestNoTexts(t *testing.T) {
	for name, w := range map[string]*cwalter.Walter{
		"no text":                  cwalter.New(),
		"a nil list":               cwalter.New([][]byte(nil)...),
		"an empty list":            cwalter.New([][]byte{}...),
		"one nil text":             cwalter.New(nil),
		"one nil text, in a list":  cwalter.New([][]byte{nil}...),
		"one empty text":           cwalter.New([]byte{}),
		"several that are empty":   cwalter.New(nil, []byte{}, []byte("a")[:0], nil),
		"one with room behind it":  cwalter.New(make([]byte, 0, 8)),
		"many that are all empty":  cwalter.New(make([][]byte, 1000)...),
		"an empty one of a string": build(""),
	} {
		if w == nil {
			t.Errorf("%s: New is nil", name)
		}
		if !nothing(w) {
			t.Errorf("%s: something is told", name)
		}
	}
}

func TestNilLineIsEmpty(t *testing.T) {
	for _, texts := range long() {
		w := build(texts...)
		for _, line := range [][]byte{nil, {}, []byte("a")[:0]} {
			if len(w.Ends(line)) != 0 || len(w.Scan(line)) != 0 {
				t.Errorf("%.60q in %#v: %v, %v", texts, line, w.Ends(line), w.Scan(line))
			}
		}
	}
}

// How long a text and a line are counts, not how much room there is behind them.
func TestTextsAndLinesEndAtTheirLengths(t *testing.T) {
	room := []byte("abcdefab")
	w := cwalter.New(room[:2], room[3:4], room[:0])
	checkLines(t, "parts of a text", w, modelOf([]string{"ab", "d"}), []string{"abcdefab", "ababd", "dab"})
	if got := w.Scan(room[:7]); !slices.Equal(got, list(0, 2, 3, 4)) {
		t.Errorf("in a part: %v", got)
	}
	if got := w.Ends(room[:3]); !slices.Equal(got, []int{1, 2, 3}) {
		t.Errorf("in a part: %v", got)
	}
}

// P16.3

// mixed is a line of n bytes: texts and other bytes in an order that is always the same.
func mixed(n int, texts []string, seed uint32) []byte {
	var line []byte
	for len(line) < n {
		seed = seed*1664525 + 1013904223
		switch pick := int(seed >> 16); {
		case len(texts) > 0 && pick%3 == 0:
			line = append(line, texts[pick/3%len(texts)]...)
		case len(texts) > 0 && pick%3 == 1:
			text := texts[pick/3%len(texts)]
			line = append(line, text[len(text)/2:]...)
		}
		// One byte at least, so that the line grows where all texts are empty.
		line = append(line, byte(seed>>24)&0x83|'`')
	}
	return line[:n]
}

func TestPiecesAreThoseOfSparse(t *testing.T) {
	for i, texts := range long() {
		w, a := build(texts...), sparse.New(asBytes(texts)...)
		var lines [][]byte
		for _, line := range linesFor(texts) {
			lines = append(lines, []byte(line))
		}
		for n := range 30 {
			lines = append(lines, mixed(n*n, texts, uint32(100*i+n)))
		}
		for _, line := range lines {
			if got, want := w.Scan(line), a.Scan(nil, line); !slices.Equal(got, want) {
				t.Errorf("%.60q in %.60q: %v, not %v", texts, line, got, want)
			}
		}
	}
}

func TestShortPiecesAreThoseOfSparse(t *testing.T) {
	lines := asBytes(linesUpTo("ab", 7))
	for _, texts := range slices.Concat(setsOf(textsUpTo("ab", 2), 6), setsOf(textsUpTo("ab", 3), 3), setsOf(textsUpTo("ba", 5), 1)) {
		w, a := build(texts...), sparse.New(asBytes(texts)...)
		for _, line := range lines {
			if got, want := w.Scan(line), a.Scan(nil, line); !slices.Equal(got, want) {
				t.Fatalf("%q in %q: %v, not %v", texts, line, got, want)
			}
		}
	}
}

func TestEachPieceEndsWhereAWindowDoes(t *testing.T) {
	for i, texts := range long() {
		w, m := build(texts...), modelOf(texts)
		for n := range 12 {
			line := mixed(20*n, texts, uint32(7*i+n))
			ends := w.Ends(line)
			for _, piece := range m.pieces(string(line)) {
				if _, is := slices.BinarySearch(ends, piece.End); !is {
					t.Errorf("%.60q in %.60q: the piece %v, but windows at %v", texts, line, piece, ends)
				}
			}
		}
	}
}

// Lines may be long, and most of their bytes aren't come by where few of them stand in a text.
func TestLongLines(t *testing.T) {
	const n = 100000
	w := build("the Seine", "the Marne", "the Oise")
	line := []byte(strings.Repeat("~", n) + "the Seine" + strings.Repeat("~", n) + "the Oise")
	if got := w.Scan(line); !slices.Equal(got, list(n, n+9, 2*n+9, 2*n+17)) {
		t.Error(got)
	}
	if got := len(w.Ends(line)); got > len(line)/8+12 {
		t.Errorf("%d windows", got)
	}
	w = build("aaa", "a")
	got := w.Scan([]byte(strings.Repeat("a", n)))
	if len(got) != n+n-2 || !pairs.Rising(got) || got[len(got)-1] != (api.Pair{Start: n - 1, End: n}) {
		t.Errorf("%d pairs", len(got))
	}
}

func TestLongTexts(t *testing.T) {
	const n = 4000
	text := strings.Repeat("ab", n/2)
	w := build(text, text[:n/2]+"c")
	if got := w.Ends([]byte(text)); got[0] != n/2+1 || got[len(got)-1] != n {
		t.Errorf("windows from %d to %d", got[0], got[len(got)-1])
	}
	if got := w.Scan([]byte("x" + text + "c")); !slices.Equal(got, list(1, n+1, n/2+1, n+2)) {
		t.Error(got)
	}
}

// DOC.md, rules 3 and 4

// roomy is a text in memory with room behind it, and that memory as a whole.
func roomy(text string) (b, whole []byte) {
	whole = []byte(text + "ushers")
	return whole[:len(text)], whole
}

// spoil changes all bytes of a text, and those behind it where there is room.
func spoil(b []byte) {
	b = b[:cap(b)]
	for i := range b {
		b[i] ^= 0x55
	}
}

func TestTextsAreNeitherChangedNorKept(t *testing.T) {
	for _, texts := range long() {
		var l, wholes [][]byte
		for _, text := range texts {
			b, whole := roomy(text)
			l, wholes = append(l, b), append(wholes, whole)
		}
		w := cwalter.New(l...)
		w.Scan([]byte("ushers"))
		w.Ends([]byte("ushers"))
		for i, text := range texts {
			if string(wholes[i]) != text+"ushers" || string(l[i]) != text {
				t.Errorf("%.60q: the text at %d was changed", texts, i)
			}
			spoil(l[i])
			l[i] = []byte("e")
		}
		check(t, fmt.Sprintf("of %.60q, spoiled", texts), w, texts)
	}
}

func TestNewChangesNoList(t *testing.T) {
	room := [][]byte{nil, []byte("ab"), {}, []byte("b"), []byte("ab"), []byte("behind")}
	cwalter.New(room[:5]...).Scan([]byte("abb"))
	if got := fmt.Sprintf("%q", room); got != `["" "ab" "" "b" "ab" "behind"]` {
		t.Error(got)
	}
}

func TestLinesAreNeitherChangedNorKept(t *testing.T) {
	for _, texts := range long() {
		w, m := build(texts...), modelOf(texts)
		for _, text := range linesFor(texts) {
			line, whole := roomy(text)
			ends, found := w.Ends(line), w.Scan(line)
			if string(whole) != text+"ushers" {
				t.Errorf("%.60q: the line %.60q was changed", texts, text)
			}
			spoil(line)
			if !slices.Equal(ends, m.windows(text)) || !slices.Equal(found, m.comeBy(text)) {
				t.Errorf("%.60q: what was told of %.60q is changed with it", texts, text)
			}
		}
		check(t, fmt.Sprintf("of %.60q, its lines spoiled", texts), w, texts)
	}
}

// spoilAnswers changes all that is told, and what is behind it where there is room.
func spoilAnswers(ends []int, found []api.Pair) {
	ends, found = ends[:cap(ends)], found[:cap(found)]
	for i := range ends {
		ends[i] = -5
	}
	for i := range found {
		found[i] = api.Pair{Start: -7, End: -9}
	}
}

// Whoever changes what Ends or Scan answered, or puts more behind it, changes neither the Walter nor another answer.
func TestAnswersAreNewMemory(t *testing.T) {
	for _, texts := range long() {
		w, m := build(texts...), modelOf(texts)
		for _, text := range linesFor(texts) {
			line := []byte(text)
			ends, found := w.Ends(line), w.Scan(line)
			otherEnds, otherFound := w.Ends(line), w.Scan(line)
			_ = append(ends, 3)
			_ = append(found, api.Pair{Start: 5, End: 6})
			spoilAnswers(ends, found)
			if string(line) != text || !slices.Equal(otherEnds, m.windows(text)) || !slices.Equal(otherFound, m.comeBy(text)) {
				t.Errorf("%.60q in %.60q: answers share memory", texts, text)
			}
		}
		check(t, fmt.Sprintf("of %.60q, its answers spoiled", texts), w, texts)
	}
}

// Neither another Walter, made ahead or later, nor what was asked plays a part.
func TestWaltersAreAlone(t *testing.T) {
	one, other := []string{"he", "she", "hers"}, []string{"e", "shsh"}
	w := build(one...)
	x := build(other...)
	for range 3 {
		check(t, "one", w, one)
		check(t, "other", x, other)
		check(t, "one without texts", build(), nil)
	}
	check(t, "one, made once more", build(one...), one)
}

// Several lines in one order, and in the other one: none plays a part in the next one.
func TestLinesPlayNoPartInOneAnother(t *testing.T) {
	for _, texts := range long() {
		w, m := build(texts...), modelOf(texts)
		lines := linesFor(texts)
		checkLines(t, fmt.Sprintf("of %.60q", texts), w, m, append(append(slices.Clone(lines), reversed(lines)...), lines...))
	}
}
