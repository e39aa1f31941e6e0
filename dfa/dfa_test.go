package dfa_test

import (
	"bytes"
	"fmt"
	"math"
	"slices"
	"strings"
	"testing"

	"seine/api"
	"seine/classes"
	"seine/dfa"
	"seine/links"
	"seine/meter"
	"seine/pairs"
	"seine/sparse"
	"seine/trie"
)

// asBytes is strings as texts, each in memory of its own.
func asBytes(l []string) [][]byte {
	var b [][]byte
	for _, text := range l {
		b = append(b, []byte(text))
	}
	return b
}

// build is New, of strings whose tree isn't too large.
func build(t *testing.T, texts ...string) *dfa.DFA {
	t.Helper()
	d, err := dfa.New(asBytes(texts)...)
	if d == nil || err != api.OK {
		t.Fatalf("of %.60q: the error %d", texts, err)
	}
	return d
}

// list is pairs, each by its start and its end.
func list(numbers ...int) []api.Pair {
	var l []api.Pair
	for i := 0; i < len(numbers); i += 2 {
		l = append(l, api.Pair{Start: numbers[i], End: numbers[i+1]})
	}
	return l
}

// model is the words: the states' paths, in the order of their numbers, and which of them are texts.
type model struct {
	paths  []string
	number map[string]int
	texts  map[string]bool
}

// modelOf numbers the texts' beginnings as chapter 6 does, without a tree.
func modelOf(texts []string) model {
	m := model{paths: []string{""}, number: map[string]int{"": 0}, texts: map[string]bool{}}
	for _, text := range texts {
		for n := range len(text) + 1 {
			if _, is := m.number[text[:n]]; !is {
				m.number[text[:n]] = len(m.paths)
				m.paths = append(m.paths, text[:n])
			}
		}
		if text != "" {
			m.texts[text] = true
		}
	}
	return m
}

// behind is the state of the longest end of some bytes that is a state's path.
func (m model) behind(b string) int {
	for {
		if state, is := m.number[b]; is {
			return state
		}
		b = b[1:]
	}
}

// next is the state behind a state and a byte, by the words alone.
func (m model) next(state int, c byte) int { return m.behind(m.paths[state] + string([]byte{c})) }

// pieces are the pieces of a line that are texts, each one held against all of them.
func (m model) pieces(line string) []api.Pair {
	longest := 0
	for text := range m.texts {
		longest = max(longest, len(text))
	}
	var l []api.Pair
	for start := range len(line) {
		for end := start + 1; end <= min(len(line), start+longest); end++ {
			if m.texts[line[start:end]] {
				l = append(l, api.Pair{Start: start, End: end})
			}
		}
	}
	return l
}

// width is 1 more than how many bytes stand in a text.
func width(texts []string) int {
	seen := map[byte]bool{}
	for _, c := range []byte(strings.Join(texts, "")) {
		seen[c] = true
	}
	return len(seen) + 1
}

// others are numbers that are no states, where there are n of them.
func others(n int) []int {
	l := []int{-1, -2, -3, -n, -n - 1, n, n + 1, n + 2, 2*n + 1, 1 << 31, 1 << 32, 1<<32 + 1, 1 << 62, 1 << 63 / 3, math.MaxInt - 1, math.MaxInt, math.MinInt, math.MinInt + 1}
	return slices.DeleteFunc(l, func(i int) bool { return i >= 0 && i < n })
}

// singles are n texts of one byte each, from a byte on, falling.
func singles(from byte, n int) []string {
	var l []string
	for i := range n {
		l = append(l, string([]byte{from - byte(i)}))
	}
	return l
}

// everyByte is each byte once, rising.
func everyByte() string { return strings.Join(reversed(singles(255, 256)), "") }

// repeats are n texts of one byte, each an end of the next.
func repeats(c string, n int) []string {
	var l []string
	for i := range n {
		l = append(l, strings.Repeat(c, i+1))
	}
	return l
}

// binary are all texts of at most n bytes, of two bytes, the empty one among them.
func binary(n int) []string {
	all := []string{""}
	longest := all
	for range n {
		var longer []string
		for _, text := range longest {
			longer = append(longer, text+"\x00", text+"\xff")
		}
		all = append(all, longer...)
		longest = longer
	}
	return all
}

// reversed is a list from its last text to its first.
func reversed(l []string) []string {
	l = slices.Clone(l)
	slices.Reverse(l)
	return l
}

// full are lists whose tree has just as many nodes as it may have.
func full() [][]string {
	return [][]string{
		{strings.Repeat("a", 159)},
		{strings.Repeat("\x00", 158) + "\xff"},
		{strings.Repeat("\xff", 159), "\xff", strings.Repeat("\xff", 159), "", strings.Repeat("\xff", 158)},
		{everyByte()[:159]},
		{everyByte()[97:]},
		singles(255, 159),
		append(singles(158, 159), "", "a", ""),
		repeats("a", 159),
		append(reversed(repeats("ab", 79)), "b"),
		{"", strings.Repeat("ab", 50), strings.Repeat("ba", 29) + "b", ""},
		append(binary(6), strings.Repeat("\x00", 6)+everyByte()[1:34]),
	}
}

// lists are ordinary lists, edges that the short ones don't have, and those whose tree is full.
func lists() [][]string {
	return append([][]string{
		nil,
		{""},
		{"", "", ""},
		{"a"},
		{"he", "she"},
		{"he", "she", "his", "hers"},
		{"", "hers", "", "his", "she", "he", "she", "e"},
		{"ab", "ab", "b", "ab", "b"},
		{"abcde", "bcd", "c"},
		{"c", "bcd", "abcde"},
		{"abcde", "cde", "e"},
		{"abcde", "abc", "a"},
		{"abcde", "bcdx", "cdy", "dz", "e"},
		{"abababac", "ababad", "bab", "ab"},
		{"abacabadabacaba", "bacab", "acab", "cab"},
		{"the Seine", "the Marne", "The Seine", "e S", "the", "ine", "\n", "Seine\n"},
		{"\xc3\x84", "\xc3\xa4", "\u212a", "\u0130", "\xc3", "\x80", "\xe2\x84", "x\xc3\xa4", "\xa4"},
		{"z", "\x80", "\x7f", "\xff", "\x01", "A", "a", "\x00", "zz", "z\xff", "z\x00", "zA"},
		{"\x00", "\xff", "\x00\xff", "\xff\x00"},
		singles(255, 100),
		repeats("a", 20),
		reversed(repeats("\x00", 20)),
		append(repeats("\xff", 9), strings.Repeat("\xff", 30)+"\x00"),
		binary(5),
		reversed(binary(5)),
		{strings.Repeat("a", 60) + "b", "aaa", "a"},
	}, full()...)
}

// linesFor are lines for a list: its texts, joined, cut off, grown, and lines that have nothing to do with them.
func linesFor(texts []string) []string {
	all := strings.Join(texts, "")
	if len(all) > 400 {
		all = all[:400]
	}
	l := []string{"", "a", "\x00", "\xff", "\n", "ushers", "shhe", "xyzzy", "abcdeabcdx", everyByte(), strings.Repeat("a", 170), strings.Repeat("\xff", 35) + "\x00\x00", all, all + all, "x" + all}
	for _, text := range texts[:min(len(texts), 12)] {
		l = append(l, text, text+text, "s"+text+"h")
		if text != "" {
			l = append(l, text[1:], text[:len(text)-1], text[:len(text)-1]+text)
		}
	}
	return l
}

// scanned holds a line's pairs and what is counted of it against the words.
func scanned(t *testing.T, name string, d *dfa.DFA, w model, line string) {
	t.Helper()
	m := meter.New()
	want := w.pieces(line)
	if got := d.Scan(m, []byte(line)); !slices.Equal(got, want) {
		t.Errorf("%s: Scan of %.80q is %v, not %v", name, line, got, want)
	}
	if got, want := m.Counts(), (meter.Counts{Scan: len(line), Look: len(line)}); got != want {
		t.Errorf("%s: Scan of %.80q counts %+v, not %+v", name, line, got, want)
	}
	if got := d.Scan(nil, []byte(line)); !slices.Equal(got, want) {
		t.Errorf("%s: Scan of %.80q, without a meter, is %v, not %v", name, line, got, want)
	}
}

// check holds an automaton against the words: states, width, paths, where all bytes lead, and lines.
func check(t *testing.T, name string, d *dfa.DFA, texts []string) {
	t.Helper()
	w := modelOf(texts)
	if got := d.States(); got != len(w.paths) {
		t.Errorf("%s: %d states, not %d", name, got, len(w.paths))
	}
	if got := d.Width(); got != width(texts) {
		t.Errorf("%s: a Width of %d, not %d", name, got, width(texts))
	}
	for state, path := range w.paths {
		if got := d.Path(state); string(got) != path {
			t.Errorf("%s: Path of %d is %q, not %q", name, state, got, path)
		}
		for c := range 256 {
			if got, want := d.Next(state, byte(c)), w.next(state, byte(c)); got != want {
				t.Errorf("%s: Next of %d and %q is %d, not %d", name, state, byte(c), got, want)
			}
		}
	}
	for _, line := range linesFor(texts) {
		scanned(t, name, d, w, line)
	}
}

func TestDFAIsTheWords(t *testing.T) {
	for _, texts := range lists() {
		check(t, fmt.Sprintf("of %.60q", texts), build(t, texts...), texts)
	}
}

// All lists of at most 2 texts of at most 3 bytes, of two bytes, and all lines of at most 6 of them.
func TestShortListsAreTheWords(t *testing.T) {
	lines := binary(6)
	short := [][]string{nil}
	for _, one := range binary(3) {
		short = append(short, []string{one})
		for _, other := range binary(3) {
			short = append(short, []string{one, other})
		}
	}
	for _, texts := range short {
		d, w := build(t, texts...), modelOf(texts)
		name := fmt.Sprintf("of %q", texts)
		for state := range w.paths {
			for _, c := range []byte("\x00\xffa") {
				if got, want := d.Next(state, c), w.next(state, c); got != want {
					t.Errorf("%s: Next of %d and %q is %d, not %d", name, state, c, got, want)
				}
			}
		}
		for _, line := range lines {
			scanned(t, name, d, w, line)
		}
	}
}

// P10.1

// refused holds what New says of texts whose tree is too large.
func refused(t *testing.T, name string, texts []string) {
	t.Helper()
	d, err := dfa.New(asBytes(texts)...)
	if d != nil || err != api.DFAStates {
		t.Errorf("%s: the error %d, not %d; %d states", name, err, api.DFAStates, d.States())
	}
}

// longest is the first of the longest texts.
func longest(texts []string) string {
	most := ""
	for _, text := range texts {
		if len(text) > len(most) {
			most = text
		}
	}
	return most
}

func TestJustAsManyStatesAsMayBe(t *testing.T) {
	for _, texts := range full() {
		if got := build(t, texts...).States(); got != api.StateCap {
			t.Errorf("of %.60q: %d states", texts, got)
		}
	}
}

// No text goes on behind the longest one, so that a byte more is a state more.
func TestOneStateMore(t *testing.T) {
	for _, texts := range full() {
		for _, c := range []string{"\x00", "a", "\xff"} {
			more := longest(texts) + c
			refused(t, fmt.Sprintf("of %.60q, and a longer one behind", texts), append(slices.Clone(texts), more))
			refused(t, fmt.Sprintf("of %.60q, and a longer one ahead", texts), append([]string{more}, texts...))
		}
	}
}

func TestTooManyStates(t *testing.T) {
	var twos []string
	for i := range 1 << 16 {
		twos = append(twos, string([]byte{byte(i >> 8), byte(i)}))
	}
	for _, x := range []struct {
		name  string
		texts []string
	}{
		{"a text of 160 bytes", []string{strings.Repeat("a", 160)}},
		{"a text of 161 bytes", []string{strings.Repeat("a", 161)}},
		{"a text of 160 bytes, several times", []string{strings.Repeat("\x00", 160), strings.Repeat("\x00", 160)}},
		{"a text of 160 bytes between others", []string{"", "a", strings.Repeat("\xff", 160), "b"}},
		{"two texts that are small enough alone", []string{strings.Repeat("a", 80), strings.Repeat("b", 80)}},
		{"160 bytes, one by one", singles(255, 160)},
		{"161 bytes, one by one", singles(160, 161)},
		{"every byte, one by one", singles(255, 256)},
		{"every byte", []string{everyByte()}},
		{"every byte, in two texts", []string{everyByte()[:128], everyByte()[128:]}},
		{"255 states", binary(7)},
		{"1001 states", []string{strings.Repeat("ab", 500)}},
		{"all texts of two bytes", twos},
		{"a text of a million bytes", []string{strings.Repeat("Seine\n", 1000000/6)}},
	} {
		refused(t, x.name, x.texts)
	}
}

// The states are counted, not the texts, nor their bytes.
func TestManyTextsButFewStates(t *testing.T) {
	var empty, same, ends []string
	for range 1000 {
		empty, same = append(empty, ""), append(same, strings.Repeat("ab", 79))
	}
	for _, text := range repeats("a", 100) {
		ends = append(ends, text, text, text)
	}
	for _, x := range []struct {
		name  string
		texts []string
		want  int
	}{
		{"the empty text", empty, 1},
		{"one text", same, 159},
		{"texts that begin each other", ends, 101},
	} {
		if got := build(t, x.texts...).States(); got != x.want {
			t.Errorf("%s: %d states, not %d", x.name, got, x.want)
		}
	}
}

// What is nil and what is empty is one, as a list and as a text.
func TestNilIsEmpty(t *testing.T) {
	var none [][]byte
	for _, x := range []struct {
		name  string
		l     [][]byte
		texts []string
	}{
		{"a nil list", none, nil},
		{"an empty list", [][]byte{}, nil},
		{"nil texts", [][]byte{nil, nil}, nil},
		{"an empty text", [][]byte{{}}, nil},
		{"nil among others", [][]byte{nil, []byte("b"), {}, []byte("ab"), nil}, []string{"b", "ab"}},
	} {
		d, err := dfa.New(x.l...)
		if d == nil || err != api.OK {
			t.Errorf("%s: the error %d", x.name, err)
			continue
		}
		check(t, x.name, d, x.texts)
	}
	if got := build(t, "ab").Scan(nil, nil); len(got) != 0 {
		t.Errorf("Scan of a nil line is %v", got)
	}
}

func TestStatesAndPaths(t *testing.T) {
	for _, x := range []struct {
		name  string
		texts []string
		want  []string
	}{
		{"no text", nil, []string{""}},
		{"the empty text alone", []string{""}, []string{""}},
		{"the empty text several times", []string{"", "", ""}, []string{""}},
		{"the empty text among others", []string{"a", "", "b", ""}, []string{"", "a", "b"}},
		{"one text several times", []string{"ab", "ab", "ab"}, []string{"", "a", "ab"}},
		{"the example", []string{"he", "she"}, []string{"", "h", "he", "s", "sh", "she"}},
		{"the example, in another order", []string{"she", "he"}, []string{"", "s", "sh", "she", "h", "he"}},
		{"a beginning, behind", []string{"ab", "a", "b"}, []string{"", "a", "ab", "b"}},
		{"a beginning, ahead", []string{"a", "ab", "b"}, []string{"", "a", "ab", "b"}},
		{"an end, ahead", []string{"b", "ab"}, []string{"", "b", "a", "ab"}},
		{"a piece within, behind", []string{"abc", "b"}, []string{"", "a", "ab", "abc", "b"}},
		{"0 and 255", []string{"\xff\x00", "\x00"}, []string{"", "\xff", "\xff\x00", "\x00"}},
		{"beyond ASCII", []string{"\xc3\xa4", "\u212a"}, []string{"", "\xc3", "\xc3\xa4", "\xe2", "\xe2\x84", "\xe2\x84\xaa"}},
	} {
		d := build(t, x.texts...)
		var got []string
		for state := range d.States() {
			got = append(got, string(d.Path(state)))
		}
		if !slices.Equal(got, x.want) {
			t.Errorf("%s: %q, not %q", x.name, got, x.want)
		}
	}
}

// Its states are the nodes of the tree, by their numbers.
func TestStatesAreNodes(t *testing.T) {
	for _, texts := range lists() {
		d, tree := build(t, texts...), trie.Build(asBytes(texts)...)
		if d.States() != tree.Nodes() {
			t.Errorf("%.60q: %d states, %d nodes", texts, d.States(), tree.Nodes())
		}
		for _, state := range append(others(tree.Nodes()), 0, tree.Nodes()/2, tree.Nodes()-1) {
			if got, want := d.Path(state), tree.Path(state); !bytes.Equal(got, want) {
				t.Errorf("%.60q: Path of %d is %q, not %q", texts, state, got, want)
			}
		}
	}
}

func TestWidth(t *testing.T) {
	for _, x := range []struct {
		name  string
		texts []string
		want  int
	}{
		{"no text", nil, 1},
		{"the empty text alone", []string{""}, 1},
		{"the empty text several times", []string{"", ""}, 1},
		{"the example", []string{"he", "she"}, 4},
		{"the example, in another order", []string{"she", "he"}, 4},
		{"one text several times", []string{"ab", "ab"}, 3},
		{"one byte", []string{"aaa", "a"}, 2},
		{"0 alone", []string{"\x00"}, 2},
		{"0 and 255", []string{"\xff", "\x00"}, 3},
		{"as many as may be", singles(255, 159), 160},
		{"as many as may be, in one text", []string{everyByte()[:159]}, 160},
	} {
		if got := build(t, x.texts...).Width(); got != x.want {
			t.Errorf("%s: %d, not %d", x.name, got, x.want)
		}
	}
}

func TestWidthIsThatOfClasses(t *testing.T) {
	for _, texts := range lists() {
		if got, want := build(t, texts...).Width(), classes.Of(asBytes(texts)...).Len(); got != want {
			t.Errorf("%.60q: %d, not %d", texts, got, want)
		}
	}
}

func TestNext(t *testing.T) {
	for _, x := range []struct {
		name  string
		texts []string
		path  string
		c     byte
		want  string
	}{
		{"leads on from the root", []string{"he", "she"}, "", 'h', "h"},
		{"leads on", []string{"he", "she"}, "sh", 'e', "she"},
		{"at the root", []string{"he", "she"}, "", 'x', ""},
		{"at the root, a byte that stands in a text", []string{"he", "she"}, "", 'e', ""},
		{"at the root, without texts", nil, "", 'x', ""},
		{"at the root, of the empty text", []string{"", ""}, "", 0, ""},
		{"falls to the root, and leads on", []string{"he", "she"}, "he", 's', "s"},
		{"falls to the root", []string{"he", "she"}, "he", 'x', ""},
		{"falls once, and leads on", []string{"abc", "bd"}, "ab", 'd', "bd"},
		{"falls twice, and leads on from the root", []string{"he", "she"}, "sh", 'h', "h"},
		{"falls twice, to the root", []string{"he", "she"}, "sh", 'x', ""},
		{"falls from a whole text", []string{"he", "she"}, "she", 's', "s"},
		{"a whole text falls to one that goes on", []string{"she", "hers"}, "she", 'r', "her"},
		{"falls thrice, and leads on", []string{"abcd", "bcx", "cy", "z"}, "abc", 'z', "z"},
		{"falls twice, and leads on, short of the root", []string{"abcd", "bcx", "cy"}, "abc", 'y', "cy"},
		{"falls by one byte", []string{"aaab"}, "aaa", 'a', "aaa"},
		{"falls all of the way", []string{"aaab"}, "aaa", 'c', ""},
		{"one text several times", []string{"ab", "ab", "ab"}, "ab", 'a', "a"},
		{"its own edge, not the one that it falls to", []string{"abc", "bcd"}, "ab", 'c', "abc"},
		{"a state of a higher number that comes first in length", []string{"abcx", "bcy", "cz"}, "abc", 'z', "cz"},
		{"0 behind 255", []string{"\xff\x00", "\x00\x01"}, "\xff", 0, "\xff\x00"},
		{"255 at the root", []string{"\xff", "\x00"}, "", 255, "\xff"},
		{"0 falls", []string{"\xff\xff", "\x00"}, "\xff\xff", 0, "\x00"},
		{"beyond ASCII", []string{"\xc3\xa4", "\xa4\xa4"}, "\xc3\xa4", 0xa4, "\xa4\xa4"},
		{"case plays a part", []string{"ab"}, "a", 'B', ""},
	} {
		d := build(t, x.texts...)
		state := modelOf(x.texts).number[x.path]
		if got := d.Next(state, x.c); string(d.Path(got)) != x.want || got < 0 {
			t.Errorf("%s: %d, %q, not %q", x.name, got, d.Path(got), x.want)
		}
	}
}

// The root's number is 0, and from there a byte that leads nowhere tells it, not -1.
func TestNextByNumbers(t *testing.T) {
	d := build(t, "ab", "b")
	for _, x := range []struct {
		state int
		c     byte
		want  int
	}{{0, 'a', 1}, {0, 'b', 3}, {0, 'c', 0}, {1, 'b', 2}, {1, 'a', 1}, {1, 'c', 0}, {2, 'a', 1}, {2, 'b', 3}, {3, 'b', 3}, {3, 'c', 0}, {0, 0, 0}, {3, 255, 0}, {4, 'a', -1}, {-1, 'a', -1}} {
		if got := d.Next(x.state, x.c); got != x.want {
			t.Errorf("Next of %d and %q is %d, not %d", x.state, x.c, got, x.want)
		}
	}
}

func TestNoState(t *testing.T) {
	for _, texts := range lists() {
		d := build(t, texts...)
		for _, state := range others(d.States()) {
			for c := range 256 {
				if got := d.Next(state, byte(c)); got != -1 {
					t.Errorf("%.60q: Next of %d and %q is %d", texts, state, byte(c), got)
				}
			}
			if got := d.Path(state); len(got) != 0 {
				t.Errorf("%.60q: Path of %d is %q", texts, state, got)
			}
		}
	}
}

// P10.2

func TestScan(t *testing.T) {
	for _, x := range []struct {
		name  string
		texts []string
		line  string
		want  []api.Pair
	}{
		{"the example", []string{"he", "she"}, "ushe", list(1, 4, 2, 4)},
		{"the example, in another order", []string{"she", "he"}, "ushe", list(1, 4, 2, 4)},
		{"four texts", []string{"he", "she", "his", "hers"}, "ushers", list(1, 4, 2, 4, 2, 6)},
		{"a line without bytes", []string{"he", "she", ""}, "", nil},
		{"no piece that is a text", []string{"he", "she"}, "xyz", nil},
		{"no byte that stands in a text", []string{"ab"}, "\x00\xff\n zZA", nil},
		{"no piece that is a whole text", []string{"abc"}, "ababab", nil},
		{"no texts", nil, "abc", nil},
		{"no texts, no bytes", nil, "", nil},
		{"the empty text alone", []string{""}, "abc", nil},
		{"the empty text several times", []string{"", ""}, "a", nil},
		{"the empty text among others", []string{"", "b", ""}, "abc", list(1, 2)},
		{"one text several times", []string{"ab", "ab", "ab"}, "xabab", list(1, 3, 3, 5)},
		{"the whole line", []string{"line"}, "line", list(0, 4)},
		{"a line that ends too early", []string{"lines"}, "line", nil},
		{"a beginning, ahead", []string{"a", "ab"}, "ab", list(0, 1, 0, 2)},
		{"a beginning, behind", []string{"ab", "a"}, "ab", list(0, 1, 0, 2)},
		{"an end, ahead", []string{"b", "ab"}, "ab", list(0, 2, 1, 2)},
		{"an end, behind", []string{"ab", "b"}, "ab", list(0, 2, 1, 2)},
		{"a piece within, ahead", []string{"b", "abc"}, "abc", list(0, 3, 1, 2)},
		{"a piece within, behind", []string{"abc", "b"}, "abc", list(0, 3, 1, 2)},
		{"a piece within alone", []string{"abc", "b"}, "abd", list(1, 2)},
		{"several that end at one place", []string{"abcd", "d", "bcd", "cd"}, "abcd", list(0, 4, 1, 4, 2, 4, 3, 4)},
		{"several that begin at one place", []string{"abcd", "a", "abc", "ab"}, "abcd", list(0, 1, 0, 2, 0, 3, 0, 4)},
		{"pieces that share bytes", []string{"abab"}, "ababab", list(0, 4, 2, 6)},
		{"pieces of two texts that share bytes", []string{"abc", "bcd", "cde"}, "abcde", list(0, 3, 1, 4, 2, 5)},
		{"found late, but told first", []string{"b", "abcd", "c"}, "abcd", list(0, 4, 1, 2, 2, 3)},
		{"one byte repeated", []string{"aa", "a", "aa"}, "aaa", list(0, 1, 0, 2, 1, 2, 1, 3, 2, 3)},
		{"one byte repeated, and another", []string{"aaab"}, "aaaac", nil},
		{"one byte repeated, found", []string{"aaab"}, "aaaab", list(1, 5)},
		{"0 and 255", []string{"\x00\xff", "\xff", "\x00\x00"}, "\xff\x00\x00\xff", list(0, 1, 1, 3, 2, 4, 3, 4)},
		{"beyond ASCII", []string{"\xc3\xa4", "\xa4x"}, "\xc3\xc3\xa4x", list(1, 3, 2, 4)},
		{"case plays a part", []string{"ab"}, "AbaBab", list(4, 6)},
		{"a newline is a byte", []string{"a\nb", "\n"}, "a\nb", list(0, 3, 1, 2)},
		{"a text as long as may be", []string{strings.Repeat("a", 159)}, strings.Repeat("a", 161), list(0, 159, 1, 160, 2, 161)},
		{"a line of every byte", append(singles(2, 3), "\xfe\xff"), everyByte(), list(0, 1, 1, 2, 2, 3, 254, 256)},
	} {
		m := meter.New()
		if got := build(t, x.texts...).Scan(m, []byte(x.line)); !slices.Equal(got, x.want) {
			t.Errorf("%s: %v, not %v", x.name, got, x.want)
		}
		if got, want := m.Counts(), (meter.Counts{Scan: len(x.line), Look: len(x.line)}); got != want {
			t.Errorf("%s: counts %+v, not %+v", x.name, got, want)
		}
	}
}

// Scan is what Next and links.Ends tell, byte by byte.
func TestScanIsNext(t *testing.T) {
	for _, texts := range lists() {
		d := build(t, texts...)
		ends := links.Build(trie.Build(asBytes(texts)...))
		for _, line := range linesFor(texts) {
			var want []api.Pair
			state := 0
			for i := range len(line) {
				state = d.Next(state, line[i])
				for _, n := range ends.Ends(state) {
					want = append(want, api.Pair{Start: i + 1 - n, End: i + 1})
				}
			}
			if got := d.Scan(nil, []byte(line)); !slices.Equal(got, pairs.Sort(want)) {
				t.Errorf("%.60q in %.60q: %v, not %v", texts, line, got, pairs.Sort(want))
			}
		}
	}
}

func TestPairsRiseAndFit(t *testing.T) {
	for _, texts := range lists() {
		d := build(t, texts...)
		for _, line := range linesFor(texts) {
			if got := d.Scan(nil, []byte(line)); !pairs.Rising(got) || !pairs.Fits(got, len(line)) {
				t.Errorf("%.60q in %.60q: %v", texts, line, got)
			}
		}
	}
}

// One meter counts all lines together, each from the root on; another one counts nothing of them.
func TestLinesAreCountedTogether(t *testing.T) {
	a, b := build(t, "he", "she"), build(t, "aaab")
	m, other := meter.New(), meter.New()
	for _, x := range []struct {
		do   func()
		want int
	}{
		{func() { a.Scan(m, []byte("ushe")) }, 4},
		{func() { a.Scan(m, nil) }, 4},
		{func() { a.Scan(m, []byte("shhe")) }, 8},
		{func() { a.Scan(m, []byte("s")) }, 9},
		{func() { a.Scan(m, []byte("x")) }, 10},
		{func() { b.Scan(m, []byte("aaaac")) }, 15},
		{func() { a.Next(4, 'x'); a.Next(-1, 'x'); a.Path(4) }, 15},
		{func() { a.Scan(nil, []byte("ushe")) }, 15},
		{func() { a.Scan(other, []byte("ushe")) }, 15},
		{func() { a.Scan(m, []byte("ush")) }, 18},
	} {
		x.do()
		if got, want := m.Counts(), (meter.Counts{Scan: x.want, Look: x.want}); got != want {
			t.Errorf("%+v, not %+v", got, want)
		}
	}
	if got, want := other.Counts(), (meter.Counts{Scan: 4, Look: 4}); got != want {
		t.Errorf("another meter counts %+v, not %+v", got, want)
	}
}

// What a meter counted ahead, of other kinds too, stays.
func TestCountsAreAdded(t *testing.T) {
	m := meter.New()
	m.Read([]byte("a"), 0)
	m.Copy(make([]byte, 2), []byte("ab"))
	m.Text([]byte("a")).At(0)
	m.Sparse().Look(0, 'a')
	build(t, "he").Scan(m, []byte("hehe"))
	if got, want := m.Counts(), (meter.Counts{Scan: 5, Look: 5, Hunt: 1, Move: 2}); got != want {
		t.Errorf("%+v, not %+v", got, want)
	}
}

// A line doesn't go on where the one ahead of it ended.
func TestLinesBeginAtTheRoot(t *testing.T) {
	d := build(t, "she", "he")
	d.Scan(nil, []byte("sh"))
	if got := d.Scan(nil, []byte("e")); len(got) != 0 {
		t.Error(got)
	}
	d.Next(0, 's')
	if got := d.Scan(nil, []byte("he")); !slices.Equal(got, list(0, 2)) {
		t.Error(got)
	}
}

func TestNilDFA(t *testing.T) {
	d, _ := dfa.New(bytes.Repeat([]byte("a"), 160))
	if d != nil {
		t.Fatal("what is too large isn't nil")
	}
	m := meter.New()
	if states, width := d.States(), d.Width(); states != 0 || width != 0 {
		t.Errorf("%d states, a Width of %d", states, width)
	}
	for _, state := range append(others(3), 0, 1, 2) {
		if got := d.Path(state); len(got) != 0 {
			t.Errorf("Path of %d is %q", state, got)
		}
		for c := range 256 {
			if got := d.Next(state, byte(c)); got != -1 {
				t.Errorf("Next of %d and %q is %d", state, byte(c), got)
			}
		}
	}
	for _, line := range []string{"", "a", "ushe", everyByte()} {
		if got, other := d.Scan(m, []byte(line)), d.Scan(nil, []byte(line)); len(got) != 0 || len(other) != 0 {
			t.Errorf("Scan of %q is %v, %v", line, got, other)
		}
	}
	if got := m.Counts(); got != (meter.Counts{}) {
		t.Errorf("counts %+v", got)
	}
}

// P10.3

// mixed is a line of so many bytes, most of them of some texts, by a short rule that doesn't repeat soon.
func mixed(n int, texts []string, seed uint32) []byte {
	from := strings.Join(texts, "") + "a\x00\xff"
	var line []byte
	for len(line) < n {
		seed = seed*1664525 + 1013904223
		at := int(seed>>8) % len(from)
		line = append(line, from[at:min(len(from), at+1+int(seed>>28))]...)
	}
	return line[:n]
}

// Lines of all lengths up to 200, and of some beyond, hold what sparse finds there, each byte read and looked up once.
func TestScanIsThatOfSparse(t *testing.T) {
	for _, texts := range lists() {
		d, s := build(t, texts...), sparse.New(asBytes(texts)...)
		m, length := meter.New(), 0
		for n := range 210 {
			if n > 200 {
				n = n * n / 100
			}
			line := mixed(n, texts, uint32(n))
			if got, want := d.Scan(m, line), s.Scan(nil, line); !slices.Equal(got, want) {
				t.Errorf("%.60q in %.60q, of %d bytes: %v, not %v", texts, line, n, got, want)
			}
			length += n
			if got, want := m.Counts(), (meter.Counts{Scan: length, Look: length}); got != want {
				t.Fatalf("%.60q in %d bytes, and those ahead: %+v, not %+v", texts, n, got, want)
			}
		}
	}
}

func TestLongLine(t *testing.T) {
	n := 100000
	texts := []string{"ab", "bab", "c"}
	line := []byte(strings.Repeat("ab", n/2) + "c")
	d, m := build(t, texts...), meter.New()
	got := d.Scan(m, line)
	if want := sparse.New(asBytes(texts)...).Scan(nil, line); !slices.Equal(got, want) || len(got) != n {
		t.Errorf("%d pairs, not %d", len(got), len(want))
	}
	if got, want := m.Counts(), (meter.Counts{Scan: n + 1, Look: n + 1}); got != want {
		t.Errorf("%+v, not %+v", got, want)
	}
}

func TestBytesOfOneClassLeadToOneState(t *testing.T) {
	for _, texts := range lists() {
		d, c := build(t, texts...), classes.Of(asBytes(texts)...)
		for state := range d.States() {
			for k := range c.Len() {
				one := c.Bytes(k)
				for _, b := range one {
					if got, want := d.Next(state, b), d.Next(state, one[0]); got != want || got < 0 {
						t.Errorf("%.60q: Next of %d and %q, of class %d, is %d, not %d", texts, state, b, k, got, want)
					}
				}
			}
		}
	}
}

// DOC.md, rules 3 and 4

// roomy is a text in memory with room behind it, and that memory as a whole.
func roomy(text string) (b, whole []byte) {
	whole = []byte(text + "ushers")
	return whole[:len(text)], whole
}

// spoil changes all bytes of a text, and those behind it where there is room.
func spoil(b []byte) {
	b = b[:cap(b)]
	for i := range b {
		b[i] ^= 0x55
	}
}

// tooLarge are lists whose tree has too many nodes.
func tooLarge() [][]string {
	return [][]string{{strings.Repeat("a", 160), "b"}, singles(255, 256), binary(7)}
}

func TestTextsAreNeitherChangedNorKept(t *testing.T) {
	for _, texts := range append(lists(), tooLarge()...) {
		var l, wholes [][]byte
		for _, text := range texts {
			b, whole := roomy(text)
			l, wholes = append(l, b), append(wholes, whole)
		}
		room := append(l, []byte("room"))
		d, _ := dfa.New(room[:len(l)]...)
		d.Scan(nil, []byte("ushers"))
		for i, text := range texts {
			if string(wholes[i]) != text+"ushers" || string(room[i]) != text {
				t.Errorf("%.60q: the text at %d was changed", texts, i)
			}
			spoil(room[i])
			room[i] = []byte("e")
		}
		if string(room[len(l)]) != "room" {
			t.Errorf("%.60q: what is behind the list was changed", texts)
		}
		if d != nil {
			check(t, fmt.Sprintf("of %.60q, spoiled", texts), d, texts)
		}
	}
}

func TestLineIsNeitherChangedNorKept(t *testing.T) {
	d := build(t, "he", "she", "hers")
	line, whole := roomy("shhers")
	first := d.Scan(nil, line)
	if string(whole) != "shhersushers" {
		t.Errorf("the line was changed: %q", whole)
	}
	spoil(line)
	if want := list(2, 4, 2, 6); !slices.Equal(first, want) {
		t.Errorf("%v, not %v", first, want)
	}
	check(t, "its line spoiled", d, []string{"he", "she", "hers"})
}

// spoilPairs changes all pairs of a list, and those behind it where there is room.
func spoilPairs(l []api.Pair) {
	l = l[:cap(l)]
	for i := range l {
		l[i] = api.Pair{Start: -7, End: -9}
	}
}

// Whoever changes what Path or Scan answered, or puts more behind it, changes neither the automaton nor another answer.
func TestAnswersAreNewMemory(t *testing.T) {
	for _, texts := range lists() {
		d := build(t, texts...)
		for state := range d.States() {
			path, other := d.Path(state), d.Path(state)
			ahead := string(other)
			_ = append(path, "xyz"...)
			spoil(path)
			if string(other) != ahead {
				t.Errorf("%.60q: paths of %d share memory", texts, state)
			}
		}
		line := []byte(strings.Join(texts, ""))
		found, other := d.Scan(nil, line), d.Scan(nil, line)
		ahead := slices.Clone(other)
		_ = append(found, api.Pair{Start: 5, End: 6})
		spoilPairs(found)
		if !slices.Equal(other, ahead) {
			t.Errorf("%.60q: lists of pairs share memory", texts)
		}
		check(t, fmt.Sprintf("of %.60q, its answers spoiled", texts), d, texts)
	}
}

// Neither another automaton, made ahead or later or refused, nor what was asked plays a part.
func TestDFAsAreAlone(t *testing.T) {
	one, other := []string{"he", "she", "hers"}, []string{"e", "sh"}
	a := build(t, one...)
	b := build(t, other...)
	m := meter.New()
	for range 3 {
		a.Scan(m, []byte("ushers"))
		a.Next(-1, 'h')
		a.Next(3, 'h')
		refused(t, "too large", tooLarge()[0])
		check(t, "one", a, one)
		check(t, "other", b, other)
	}
	check(t, "one, made once more", build(t, one...), one)
	check(t, "without texts", build(t), nil)
}

// Two automatons of the same texts tell the same of a line.
func TestSameCallsHaveTheSameAnswers(t *testing.T) {
	for _, texts := range lists() {
		a, b := build(t, texts...), build(t, texts...)
		for _, line := range linesFor(texts) {
			if !slices.Equal(a.Scan(nil, []byte(line)), b.Scan(nil, []byte(line))) {
				t.Errorf("%.60q in %.60q", texts, line)
			}
		}
	}
}
