package sparse_test

import (
	"bytes"
	"fmt"
	"math"
	"slices"
	"strings"
	"testing"

	"seine/api"
	"seine/links"
	"seine/meter"
	"seine/pairs"
	"seine/sparse"
	"seine/trie"
)

// asBytes is strings as texts, each in memory of its own.
func asBytes(l []string) [][]byte {
	var b [][]byte
	for _, text := range l {
		b = append(b, []byte(text))
	}
	return b
}

// build is New, of strings.
func build(texts ...string) *sparse.Automaton { return sparse.New(asBytes(texts)...) }

// list is pairs, each by its start and its end.
func list(numbers ...int) []api.Pair {
	var l []api.Pair
	for i := 0; i < len(numbers); i += 2 {
		l = append(l, api.Pair{Start: numbers[i], End: numbers[i+1]})
	}
	return l
}

// model is the words: the states' paths, in the order of their numbers, and which of them are texts.
type model struct {
	paths  []string
	number map[string]int
	texts  map[string]bool
}

// modelOf numbers the texts' beginnings as chapter 6 does, without a tree.
func modelOf(texts []string) model {
	m := model{paths: []string{""}, number: map[string]int{"": 0}, texts: map[string]bool{}}
	for _, text := range texts {
		for n := range len(text) + 1 {
			if _, is := m.number[text[:n]]; !is {
				m.number[text[:n]] = len(m.paths)
				m.paths = append(m.paths, text[:n])
			}
		}
		if text != "" {
			m.texts[text] = true
		}
	}
	return m
}

// end is the longest end of some bytes, from a place on, that is a state's path.
func (m model) end(b string, from int) string {
	for ; from < len(b); from++ {
		if _, is := m.number[b[from:]]; is {
			return b[from:]
		}
	}
	return ""
}

// step is the state behind a path and a byte, and how often it is looked up, by the words alone.
func (m model) step(path string, c byte) (string, int) {
	for looks := 1; ; looks++ {
		next := path + string([]byte{c})
		if _, is := m.number[next]; is {
			return next, looks
		}
		if path == "" {
			return "", looks
		}
		path = m.end(path, 1)
	}
}

// looks is how often the bytes of a line are looked up.
func (m model) looks(line string) int {
	path, all := "", 0
	for i := range len(line) {
		next, n := m.step(path, line[i])
		path, all = next, all+n
	}
	return all
}

// pieces are the pieces of a line that are texts, each one held against all of them.
func (m model) pieces(line string) []api.Pair {
	longest := 0
	for text := range m.texts {
		longest = max(longest, len(text))
	}
	var l []api.Pair
	for start := range len(line) {
		for end := start + 1; end <= min(len(line), start+longest); end++ {
			if m.texts[line[start:end]] {
				l = append(l, api.Pair{Start: start, End: end})
			}
		}
	}
	return l
}

// others are numbers that are no states, where there are n of them.
func others(n int) []int {
	l := []int{-1, -2, -3, -n, -n - 1, n, n + 1, n + 2, 2*n + 1, 1 << 31, 1 << 32, 1<<32 + 1, math.MaxInt - 1, math.MaxInt, math.MinInt, math.MinInt + 1}
	return slices.DeleteFunc(l, func(i int) bool { return i >= 0 && i < n })
}

// singles are the texts of one byte, from the last byte to the first.
func singles() []string {
	var l []string
	for c := 255; c >= 0; c-- {
		l = append(l, string([]byte{byte(c)}))
	}
	return l
}

// everyByte is each byte once, rising.
func everyByte() string {
	l := singles()
	slices.Reverse(l)
	return strings.Join(l, "")
}

// repeats are n texts of one byte, each an end of the next.
func repeats(c string, n int) []string {
	var l []string
	for i := range n {
		l = append(l, strings.Repeat(c, i+1))
	}
	return l
}

// binary are all texts of at most n bytes, of two bytes, the empty one among them.
func binary(n int) []string {
	all := []string{""}
	longest := all
	for range n {
		var longer []string
		for _, text := range longest {
			longer = append(longer, text+"\x00", text+"\xff")
		}
		all = append(all, longer...)
		longest = longer
	}
	return all
}

// reversed is a list from its last text to its first.
func reversed(l []string) []string {
	l = slices.Clone(l)
	slices.Reverse(l)
	return l
}

// long are ordinary lists, and edges that the short ones don't have.
func long() [][]string {
	return [][]string{
		nil,
		{""},
		{"", "", ""},
		{"a"},
		{"he", "she"},
		{"he", "she", "his", "hers"},
		{"", "hers", "", "his", "she", "he", "she", "e"},
		{"ab", "ab", "b", "ab", "b"},
		{"abcde", "bcd", "c"},
		{"c", "bcd", "abcde"},
		{"abcde", "cde", "e"},
		{"abcde", "abc", "a"},
		{"abcde", "bcdx", "cdy", "dz", "e"},
		{"abababac", "ababad", "bab", "ab"},
		{"abacabadabacaba", "bacab", "acab", "cab"},
		{"the Seine", "the Marne", "The Seine", "e S", "the", "ine", "\n", "Seine\n"},
		{"\xc3\x84", "\xc3\xa4", "\u212a", "\u0130", "\xc3", "\x80", "\xe2\x84", "x\xc3\xa4", "\xa4"},
		{"z", "\x80", "\x7f", "\xff", "\x01", "A", "a", "\x00", "zz", "z\xff", "z\x00", "zA"},
		{everyByte(), everyByte()[1:], everyByte()[128:], "\xff"},
		singles(),
		repeats("a", 20),
		reversed(repeats("\x00", 20)),
		append(repeats("\xff", 9), strings.Repeat("\xff", 30)+"\x00"),
		binary(5),
		reversed(binary(5)),
		{strings.Repeat("a", 60) + "b", "aaa", "a"},
	}
}

// linesFor are lines for a list: its texts, joined, cut off, grown, and lines that have nothing to do with them.
func linesFor(texts []string) []string {
	all := strings.Join(texts, "")
	l := []string{"", "a", "\x00", "\xff", "\n", "ushers", "shhe", "xyzzy", "abcdeabcdx", everyByte(), strings.Repeat("a", 70), strings.Repeat("\xff", 35) + "\x00\x00", all, all + all, "x" + all, strings.Join(texts, " ")}
	for _, text := range texts[:min(len(texts), 12)] {
		l = append(l, text, text+text, "s"+text+"h")
		if text != "" {
			l = append(l, text[1:], text[:len(text)-1], text[:len(text)-1]+text)
		}
	}
	return l
}

// scanned holds a line's pairs and what is counted of it against the words.
func scanned(t *testing.T, name string, a *sparse.Automaton, w model, line string) {
	t.Helper()
	m := meter.New()
	want := w.pieces(line)
	if got := a.Scan(m, []byte(line)); !slices.Equal(got, want) {
		t.Errorf("%s: Scan of %.80q is %v, not %v", name, line, got, want)
	}
	if got, want := m.Counts(), (meter.Counts{Scan: len(line), Look: w.looks(line)}); got != want {
		t.Errorf("%s: Scan of %.80q counts %+v, not %+v", name, line, got, want)
	}
	if got := a.Scan(nil, []byte(line)); !slices.Equal(got, want) {
		t.Errorf("%s: Scan of %.80q, without a meter, is %v, not %v", name, line, got, want)
	}
}

// stepped holds a step, and what is counted of it, against the words.
func stepped(t *testing.T, name string, a *sparse.Automaton, w model, state int, c byte) {
	t.Helper()
	m := meter.New()
	path, looks := w.step(w.paths[state], c)
	want := w.number[path]
	if got := a.Step(m, state, c); got != want {
		t.Errorf("%s: Step from %d by %q is %d, not %d", name, state, c, got, want)
	}
	if got := m.Counts(); got != (meter.Counts{Look: looks}) {
		t.Errorf("%s: Step from %d by %q counts %+v, not %d Looks", name, state, c, got, looks)
	}
	if got := a.Step(nil, state, c); got != want {
		t.Errorf("%s: Step from %d by %q, without a meter, is %d, not %d", name, state, c, got, want)
	}
}

// bytesFor are the bytes that stand in some texts, and some that don't stand in most.
func bytesFor(texts []string) []byte {
	l := []byte(strings.Join(texts, "") + "\x00\x01asz\x7f\x80\xfe\xff")
	slices.Sort(l)
	return slices.Compact(l)
}

// check holds an automaton against the words: states, paths, and lines; steps are asked for by few bytes.
func check(t *testing.T, name string, a *sparse.Automaton, texts []string) {
	t.Helper()
	w := modelOf(texts)
	if got := a.States(); got != len(w.paths) {
		t.Errorf("%s: %d states, not %d", name, got, len(w.paths))
	}
	for state, path := range w.paths {
		if got := a.Path(state); string(got) != path {
			t.Errorf("%s: Path of %d is %q, not %q", name, state, got, path)
		}
		for _, c := range []byte("ah\x00\xff") {
			stepped(t, name, a, w, state, c)
		}
	}
	for _, line := range linesFor(texts) {
		scanned(t, name, a, w, line)
	}
}

func TestAutomatonIsTheWords(t *testing.T) {
	for _, texts := range long() {
		check(t, fmt.Sprintf("of %.60q", texts), build(texts...), texts)
	}
}

// All lists of at most 2 texts of at most 3 bytes, of two bytes, and all lines of at most 6 of them.
func TestShortListsAreTheWords(t *testing.T) {
	lines := binary(6)
	short := [][]string{nil}
	for _, one := range binary(3) {
		short = append(short, []string{one})
		for _, other := range binary(3) {
			short = append(short, []string{one, other})
		}
	}
	for _, texts := range short {
		a, w := build(texts...), modelOf(texts)
		name := fmt.Sprintf("of %q", texts)
		for state := range w.paths {
			for _, c := range []byte("\x00\xffa") {
				stepped(t, name, a, w, state, c)
			}
		}
		for _, line := range lines {
			scanned(t, name, a, w, line)
		}
	}
}

// P8.1

func TestStatesAndPaths(t *testing.T) {
	for _, x := range []struct {
		name  string
		texts []string
		want  []string
	}{
		{"no text", nil, []string{""}},
		{"the empty text alone", []string{""}, []string{""}},
		{"the empty text several times", []string{"", "", ""}, []string{""}},
		{"the empty text among others", []string{"a", "", "b", ""}, []string{"", "a", "b"}},
		{"one text several times", []string{"ab", "ab", "ab"}, []string{"", "a", "ab"}},
		{"the example", []string{"he", "she"}, []string{"", "h", "he", "s", "sh", "she"}},
		{"a beginning, behind", []string{"ab", "a", "b"}, []string{"", "a", "ab", "b"}},
		{"a beginning, ahead", []string{"a", "ab", "b"}, []string{"", "a", "ab", "b"}},
		{"an end, ahead", []string{"b", "ab"}, []string{"", "b", "a", "ab"}},
		{"a piece within, behind", []string{"abc", "b"}, []string{"", "a", "ab", "abc", "b"}},
		{"0 and 255", []string{"\xff\x00", "\x00"}, []string{"", "\xff", "\xff\x00", "\x00"}},
		{"beyond ASCII", []string{"\xc3\xa4", "\u212a"}, []string{"", "\xc3", "\xc3\xa4", "\xe2", "\xe2\x84", "\xe2\x84\xaa"}},
	} {
		a := build(x.texts...)
		var got []string
		for state := range a.States() {
			got = append(got, string(a.Path(state)))
		}
		if !slices.Equal(got, x.want) {
			t.Errorf("%s: %q, not %q", x.name, got, x.want)
		}
	}
}

// Its states are the nodes of the tree, by their numbers.
func TestStatesAreNodes(t *testing.T) {
	for _, texts := range long() {
		a, tree := build(texts...), trie.Build(asBytes(texts)...)
		if a.States() != tree.Nodes() {
			t.Errorf("%.60q: %d states, %d nodes", texts, a.States(), tree.Nodes())
		}
		for _, state := range append(others(tree.Nodes()), 0, tree.Nodes()/2, tree.Nodes()-1) {
			if got, want := a.Path(state), tree.Path(state); !bytes.Equal(got, want) {
				t.Errorf("%.60q: Path of %d is %q, not %q", texts, state, got, want)
			}
		}
	}
}

func TestStep(t *testing.T) {
	for _, x := range []struct {
		name  string
		texts []string
		path  string
		c     byte
		want  string
		looks int
	}{
		{"leads on from the root", []string{"he", "she"}, "", 'h', "h", 1},
		{"leads on", []string{"he", "she"}, "sh", 'e', "she", 1},
		{"at the root", []string{"he", "she"}, "", 'x', "", 1},
		{"at the root, without texts", nil, "", 'x', "", 1},
		{"at the root, of the empty text", []string{"", ""}, "", 0, "", 1},
		{"falls once, to the root, and leads on", []string{"he", "she"}, "he", 's', "s", 2},
		{"falls once, to the root", []string{"he", "she"}, "he", 'x', "", 2},
		{"falls once, and leads on", []string{"abc", "bd"}, "ab", 'd', "bd", 2},
		{"falls twice, and leads on from the root", []string{"he", "she"}, "sh", 'h', "h", 3},
		{"falls twice, to the root", []string{"he", "she"}, "sh", 'x', "", 3},
		{"falls from a whole text", []string{"he", "she"}, "she", 's', "s", 3},
		{"a whole text falls to one that goes on", []string{"she", "hers"}, "she", 'r', "her", 2},
		{"falls thrice, and leads on", []string{"abcd", "bcx", "cy", "z"}, "abc", 'z', "z", 4},
		{"falls twice, and leads on, short of the root", []string{"abcd", "bcx", "cy"}, "abc", 'y', "cy", 3},
		{"falls by one byte each time", []string{"aaab"}, "aaa", 'a', "aaa", 2},
		{"falls all of the way", []string{"aaab"}, "aaa", 'c', "", 4},
		{"one text several times", []string{"ab", "ab", "ab"}, "ab", 'a', "a", 2},
		{"0 behind 255", []string{"\xff\x00", "\x00\x01"}, "\xff", 0, "\xff\x00", 1},
		{"255 at the root", []string{"\xff", "\x00"}, "", 255, "\xff", 1},
		{"0 falls", []string{"\xff\xff", "\x00"}, "\xff\xff", 0, "\x00", 3},
		{"beyond ASCII", []string{"\xc3\xa4", "\xa4\xa4"}, "\xc3\xa4", 0xa4, "\xa4\xa4", 2},
		{"case plays a part", []string{"ab"}, "a", 'B', "", 2},
	} {
		a, m := build(x.texts...), meter.New()
		state := modelOf(x.texts).number[x.path]
		if got := a.Step(m, state, x.c); string(a.Path(got)) != x.want || got < 0 {
			t.Errorf("%s: %d, %q, not %q", x.name, got, a.Path(got), x.want)
		}
		if got := m.Counts(); got != (meter.Counts{Look: x.looks}) {
			t.Errorf("%s: counts %+v, not %d Looks", x.name, got, x.looks)
		}
	}
}

// Each state's step by each byte that stands in a text, and by some that don't.
func TestEachStep(t *testing.T) {
	for _, texts := range long() {
		w := modelOf(texts)
		if len(w.paths) > 100 {
			continue
		}
		a := build(texts...)
		for state := range w.paths {
			for _, c := range bytesFor(texts) {
				stepped(t, fmt.Sprintf("of %.60q", texts), a, w, state, c)
			}
		}
	}
}

// The root's number is 0, and from there a step that leads nowhere tells it, not -1.
func TestStepByNumbers(t *testing.T) {
	a := build("ab", "b")
	for _, x := range []struct {
		state int
		c     byte
		want  int
	}{{0, 'a', 1}, {0, 'b', 3}, {0, 'c', 0}, {1, 'b', 2}, {1, 'a', 1}, {1, 'c', 0}, {2, 'a', 1}, {2, 'b', 3}, {3, 'b', 3}, {3, 'c', 0}} {
		if got := a.Step(nil, x.state, x.c); got != x.want {
			t.Errorf("Step from %d by %q is %d, not %d", x.state, x.c, got, x.want)
		}
	}
}

func TestNoState(t *testing.T) {
	for _, texts := range long() {
		a, m := build(texts...), meter.New()
		for _, state := range others(a.States()) {
			for _, c := range []byte("ah\x00\xff") {
				if got := a.Step(m, state, c); got != -1 {
					t.Errorf("%.60q: Step from %d by %q is %d", texts, state, c, got)
				}
				if got := a.Step(nil, state, c); got != -1 {
					t.Errorf("%.60q: Step from %d by %q, without a meter, is %d", texts, state, c, got)
				}
			}
			if got := a.Path(state); len(got) != 0 {
				t.Errorf("%.60q: Path of %d is %q", texts, state, got)
			}
		}
		if got := m.Counts(); got != (meter.Counts{}) {
			t.Errorf("%.60q: what is no state counts %+v", texts, got)
		}
	}
}

// P8.2

func TestScan(t *testing.T) {
	for _, x := range []struct {
		name  string
		texts []string
		line  string
		want  []api.Pair
		looks int
	}{
		{"the first example", []string{"he", "she"}, "ushe", list(1, 4, 2, 4), 4},
		{"the second example", []string{"he", "she"}, "shhe", list(2, 4), 6},
		{"four texts", []string{"he", "she", "his", "hers"}, "ushers", list(1, 4, 2, 4, 2, 6), 7},
		{"a line without bytes", []string{"he", "she", ""}, "", nil, 0},
		{"no piece that is a text", []string{"he", "she"}, "xyz", nil, 3},
		{"no piece that is a whole text", []string{"abc"}, "ababab", nil, 8},
		{"no texts", nil, "abc", nil, 3},
		{"no texts, no bytes", nil, "", nil, 0},
		{"the empty text alone", []string{""}, "abc", nil, 3},
		{"the empty text several times", []string{"", ""}, "a", nil, 1},
		{"the empty text among others", []string{"", "b", ""}, "abc", list(1, 2), 4},
		{"one text several times", []string{"ab", "ab", "ab"}, "xabab", list(1, 3, 3, 5), 6},
		{"the whole line", []string{"line"}, "line", list(0, 4), 4},
		{"a line that ends too early", []string{"lines"}, "line", nil, 4},
		{"a beginning, ahead", []string{"a", "ab"}, "ab", list(0, 1, 0, 2), 2},
		{"a beginning, behind", []string{"ab", "a"}, "ab", list(0, 1, 0, 2), 2},
		{"an end, ahead", []string{"b", "ab"}, "ab", list(0, 2, 1, 2), 2},
		{"an end, behind", []string{"ab", "b"}, "ab", list(0, 2, 1, 2), 2},
		{"a piece within, ahead", []string{"b", "abc"}, "abc", list(0, 3, 1, 2), 3},
		{"a piece within, behind", []string{"abc", "b"}, "abc", list(0, 3, 1, 2), 3},
		{"a piece within alone", []string{"abc", "b"}, "abd", list(1, 2), 5},
		{"several that end at one place", []string{"abcd", "d", "bcd", "cd"}, "abcd", list(0, 4, 1, 4, 2, 4, 3, 4), 4},
		{"several that begin at one place", []string{"abcd", "a", "abc", "ab"}, "abcd", list(0, 1, 0, 2, 0, 3, 0, 4), 4},
		{"pieces that share bytes", []string{"abab"}, "ababab", list(0, 4, 2, 6), 7},
		{"pieces of two texts that share bytes", []string{"abc", "bcd", "cde"}, "abcde", list(0, 3, 1, 4, 2, 5), 7},
		{"found late, but told first", []string{"b", "abcd", "c"}, "abcd", list(0, 4, 1, 2, 2, 3), 4},
		{"one byte repeated", []string{"aa", "a", "aa"}, "aaa", list(0, 1, 0, 2, 1, 2, 1, 3, 2, 3), 4},
		{"one byte repeated, and another", []string{"aaab"}, "aaaac", nil, 9},
		{"one byte repeated, found", []string{"aaab"}, "aaaab", list(1, 5), 6},
		{"0 and 255", []string{"\x00\xff", "\xff", "\x00\x00"}, "\xff\x00\x00\xff", list(0, 1, 1, 3, 2, 4, 3, 4), 6},
		{"beyond ASCII", []string{"\xc3\xa4", "\xa4x"}, "\xc3\xc3\xa4x", list(1, 3, 2, 4), 6},
		{"case plays a part", []string{"ab"}, "AbaBab", list(4, 6), 7},
		{"a newline is a byte", []string{"a\nb", "\n"}, "a\nb", list(0, 3, 1, 2), 3},
	} {
		m := meter.New()
		if got := build(x.texts...).Scan(m, []byte(x.line)); !slices.Equal(got, x.want) {
			t.Errorf("%s: %v, not %v", x.name, got, x.want)
		}
		if got, want := m.Counts(), (meter.Counts{Scan: len(x.line), Look: x.looks}); got != want {
			t.Errorf("%s: counts %+v, not %+v", x.name, got, want)
		}
	}
}

// Scan is what Step and links.Ends tell, byte by byte, and counts what these steps count.
func TestScanIsSteps(t *testing.T) {
	for _, texts := range long() {
		a := build(texts...)
		ends := links.Build(trie.Build(asBytes(texts)...))
		for _, line := range linesFor(texts)[:12] {
			m, bySteps := meter.New(), meter.New()
			var want []api.Pair
			state := 0
			for i := range len(line) {
				state = a.Step(bySteps, state, line[i])
				for _, n := range ends.Ends(state) {
					want = append(want, api.Pair{Start: i + 1 - n, End: i + 1})
				}
			}
			if got := a.Scan(m, []byte(line)); !slices.Equal(got, pairs.Sort(want)) {
				t.Errorf("%.60q in %.60q: %v, not %v", texts, line, got, pairs.Sort(want))
			}
			if m.Counts().Look != bySteps.Counts().Look {
				t.Errorf("%.60q in %.60q: %d Looks, %d by steps", texts, line, m.Counts().Look, bySteps.Counts().Look)
			}
		}
	}
}

func TestPairsRiseAndFit(t *testing.T) {
	for _, texts := range long() {
		a := build(texts...)
		for _, line := range linesFor(texts) {
			if got := a.Scan(nil, []byte(line)); !pairs.Rising(got) || !pairs.Fits(got, len(line)) {
				t.Errorf("%.60q in %.60q: %v", texts, line, got)
			}
		}
	}
}

// One meter counts all lines and steps together, each line from the root on; another one counts nothing of them.
func TestLinesAreCountedTogether(t *testing.T) {
	a, b := build("he", "she"), build("aaab")
	m, other := meter.New(), meter.New()
	for _, x := range []struct {
		do   func()
		want meter.Counts
	}{
		{func() { a.Scan(m, []byte("ushe")) }, meter.Counts{Scan: 4, Look: 4}},
		{func() { a.Scan(m, nil) }, meter.Counts{Scan: 4, Look: 4}},
		{func() { a.Scan(m, []byte("shhe")) }, meter.Counts{Scan: 8, Look: 10}},
		{func() { a.Scan(m, []byte("s")) }, meter.Counts{Scan: 9, Look: 11}},
		{func() { a.Scan(m, []byte("x")) }, meter.Counts{Scan: 10, Look: 12}},
		{func() { b.Scan(m, []byte("aaaac")) }, meter.Counts{Scan: 15, Look: 21}},
		{func() { a.Step(m, 4, 'x') }, meter.Counts{Scan: 15, Look: 24}},
		{func() { a.Step(m, 6, 'x') }, meter.Counts{Scan: 15, Look: 24}},
		{func() { a.Scan(nil, []byte("ushe")); a.Step(nil, 0, 's') }, meter.Counts{Scan: 15, Look: 24}},
	} {
		x.do()
		if got := m.Counts(); got != x.want {
			t.Errorf("%+v, not %+v", got, x.want)
		}
	}
	if got := other.Counts(); got != (meter.Counts{}) {
		t.Errorf("another meter counts %+v", got)
	}
	a.Scan(other, []byte("shhe"))
	if got, want := other.Counts(), (meter.Counts{Scan: 4, Look: 6}); got != want {
		t.Errorf("another meter counts %+v, not %+v", got, want)
	}
}

// What a meter counted ahead, of other kinds too, stays.
func TestCountsAreAdded(t *testing.T) {
	m := meter.New()
	m.Read([]byte("a"), 0)
	m.Copy(make([]byte, 2), []byte("ab"))
	m.Text([]byte("a")).At(0)
	build("he").Scan(m, []byte("hehe"))
	if got, want := m.Counts(), (meter.Counts{Scan: 5, Look: 5, Hunt: 1, Move: 2}); got != want {
		t.Errorf("%+v, not %+v", got, want)
	}
}

// A line doesn't go on where the one ahead of it ended.
func TestLinesBeginAtTheRoot(t *testing.T) {
	a := build("she", "he")
	a.Scan(nil, []byte("sh"))
	if got := a.Scan(nil, []byte("e")); len(got) != 0 {
		t.Error(got)
	}
	a.Step(nil, 0, 's')
	if got := a.Scan(nil, []byte("he")); !slices.Equal(got, list(0, 2)) {
		t.Error(got)
	}
}

func TestNilAutomaton(t *testing.T) {
	var a *sparse.Automaton
	m := meter.New()
	if got := a.States(); got != 0 {
		t.Error(got)
	}
	for _, state := range append(others(3), 0, 1, 2) {
		if got := a.Path(state); len(got) != 0 {
			t.Errorf("Path of %d is %q", state, got)
		}
		for _, c := range []byte("a\x00\xff") {
			if got, other := a.Step(m, state, c), a.Step(nil, state, c); got != -1 || other != -1 {
				t.Errorf("Step from %d by %q is %d, %d", state, c, got, other)
			}
		}
	}
	for _, line := range []string{"", "a", "ushe"} {
		if got, other := a.Scan(m, []byte(line)), a.Scan(nil, []byte(line)); len(got) != 0 || len(other) != 0 {
			t.Errorf("Scan of %q is %v, %v", line, got, other)
		}
	}
	if got := m.Counts(); got != (meter.Counts{}) {
		t.Errorf("counts %+v", got)
	}
}

// P8.3

func TestStateIsTheLongestEnd(t *testing.T) {
	for _, texts := range long() {
		a, w := build(texts...), modelOf(texts)
		for _, line := range linesFor(texts)[:12] {
			state := 0
			for i := range len(line) {
				state = a.Step(nil, state, line[i])
				if got, want := string(a.Path(state)), w.end(line[:i+1], 0); got != want || state < 0 {
					t.Errorf("%.60q: behind %.60q the state is %q, not %q", texts, line[:i+1], got, want)
				}
			}
		}
	}
}

func TestHowMuchIsLookedUp(t *testing.T) {
	for _, texts := range long() {
		a := build(texts...)
		for _, line := range linesFor(texts) {
			m, n := meter.New(), len(line)
			a.Scan(m, []byte(line))
			if c := m.Counts(); c.Scan != n || c.Look < n || c.Look > 2*n || c.Hunt != 0 || c.Move != 0 {
				t.Errorf("%.60q in %.60q of %d bytes: %+v", texts, line, n, c)
			}
		}
	}
}

// A line may be long, and its last byte may fall all of the way back.
func TestLongLine(t *testing.T) {
	n := 20000
	text := strings.Repeat("a", n)
	a, m := build(text+"b", "aaac"), meter.New()
	if a.States() != n+3 {
		t.Error(a.States())
	}
	got := a.Scan(m, []byte(text+"c"+text+"b"))
	if !slices.Equal(got, list(n-3, n+1, n+1, 2*n+2)) {
		t.Error(got)
	}
	// The c is looked up at n a's, and at each shorter row of them down to three; then the a falls from aaac to the root.
	if got, want := m.Counts(), (meter.Counts{Scan: 2*n + 2, Look: 2*n + 2 + n - 3 + 1}); got != want {
		t.Errorf("%+v, not %+v", got, want)
	}
}

// DOC.md, rules 3 and 4

// roomy is a text in memory with room behind it, and that memory as a whole.
func roomy(text string) (b, whole []byte) {
	whole = []byte(text + "ushers")
	return whole[:len(text)], whole
}

// spoil changes all bytes of a text, and those behind it where there is room.
func spoil(b []byte) {
	b = b[:cap(b)]
	for i := range b {
		b[i] ^= 0x55
	}
}

func TestTextsAreNeitherChangedNorKept(t *testing.T) {
	for _, texts := range long() {
		var l, wholes [][]byte
		for _, text := range texts {
			b, whole := roomy(text)
			l, wholes = append(l, b), append(wholes, whole)
		}
		a := sparse.New(l...)
		a.Scan(nil, []byte("ushers"))
		for i, text := range texts {
			if string(wholes[i]) != text+"ushers" || string(l[i]) != text {
				t.Errorf("%.60q: the text at %d was changed", texts, i)
			}
			spoil(l[i])
			l[i] = []byte("e")
		}
		check(t, fmt.Sprintf("of %.60q, spoiled", texts), a, texts)
	}
}

func TestLineIsNeitherChangedNorKept(t *testing.T) {
	a := build("he", "she", "hers")
	line, whole := roomy("shhers")
	first := a.Scan(nil, line)
	if string(whole) != "shhersushers" {
		t.Errorf("the line was changed: %q", whole)
	}
	spoil(line)
	if want := list(2, 4, 2, 6); !slices.Equal(first, want) {
		t.Errorf("%v, not %v", first, want)
	}
	check(t, "its line spoiled", a, []string{"he", "she", "hers"})
}

// spoilPairs changes all pairs of a list, and those behind it where there is room.
func spoilPairs(l []api.Pair) {
	l = l[:cap(l)]
	for i := range l {
		l[i] = api.Pair{Start: -7, End: -9}
	}
}

// Whoever changes what Path or Scan answered, or puts more behind it, changes neither the automaton nor another answer.
func TestAnswersAreNewMemory(t *testing.T) {
	for _, texts := range long() {
		a := build(texts...)
		for state := range a.States() {
			path, other := a.Path(state), a.Path(state)
			ahead := string(other)
			_ = append(path, "xyz"...)
			spoil(path)
			if string(other) != ahead {
				t.Errorf("%.60q: paths of %d share memory", texts, state)
			}
		}
		line := []byte(strings.Join(texts, ""))
		found, other := a.Scan(nil, line), a.Scan(nil, line)
		ahead := slices.Clone(other)
		_ = append(found, api.Pair{Start: 5, End: 6})
		spoilPairs(found)
		if !slices.Equal(other, ahead) {
			t.Errorf("%.60q: lists of pairs share memory", texts)
		}
		check(t, fmt.Sprintf("of %.60q, its answers spoiled", texts), a, texts)
	}
}

// Neither another automaton, made ahead or later, nor what was asked plays a part.
func TestAutomatonsAreAlone(t *testing.T) {
	one, other := []string{"he", "she", "hers"}, []string{"e", "sh"}
	a := build(one...)
	b := build(other...)
	m := meter.New()
	for range 3 {
		a.Scan(m, []byte("ushers"))
		a.Step(m, -1, 'h')
		a.Step(m, 3, 'h')
		check(t, "one", a, one)
		check(t, "other", b, other)
	}
	check(t, "one, made once more", build(one...), one)
	check(t, "without texts", build(), nil)
}

// Two automatons of the same texts tell the same of a line, and count the same.
func TestSameCallsHaveTheSameAnswers(t *testing.T) {
	for _, texts := range long() {
		a, b := build(texts...), build(texts...)
		for _, line := range linesFor(texts)[:12] {
			m, n := meter.New(), meter.New()
			if !slices.Equal(a.Scan(m, []byte(line)), b.Scan(n, []byte(line))) || m.Counts() != n.Counts() {
				t.Errorf("%.60q in %.60q", texts, line)
			}
		}
	}
}
