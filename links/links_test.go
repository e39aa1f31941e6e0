package links_test

import (
	"fmt"
	"math"
	"slices"
	"strings"
	"testing"

	"seine/links"
	"seine/trie"
)

// tree is trie.Build, of strings, each in memory of its own.
func tree(texts ...string) *trie.Trie {
	var l [][]byte
	for _, text := range texts {
		l = append(l, []byte(text))
	}
	return trie.Build(l...)
}

// build is Build, of the tree of strings.
func build(texts ...string) *links.Links { return links.Build(tree(texts...)) }

// told is what links tell of a number.
type told struct {
	fail, out, longest int
	ends               []int
}

// String is what is told, to be read and to be held against another.
func (x told) String() string {
	return fmt.Sprintf("Fail %d, Out %d, Longest %d, Ends %d", x.fail, x.out, x.longest, x.ends)
}

// nothing is what is told of a number that is no node.
func nothing() string { return told{-1, -1, 0, nil}.String() }

// asks is all that links tell of a number.
func asks(x *links.Links, node int) string {
	return told{x.Fail(node), x.Out(node), x.Longest(node), x.Ends(node)}.String()
}

// model is the words: the paths, in the order of their nodes' numbers, and which of them are texts.
type model struct {
	paths  []string
	number map[string]int
	texts  map[string]bool
}

// modelOf numbers the texts' beginnings as chapter 6 does, without a tree.
func modelOf(texts []string) model {
	m := model{paths: []string{""}, number: map[string]int{"": 0}, texts: map[string]bool{}}
	for _, text := range texts {
		for n := range len(text) + 1 {
			if _, is := m.number[text[:n]]; !is {
				m.number[text[:n]] = len(m.paths)
				m.paths = append(m.paths, text[:n])
			}
		}
		if text != "" {
			m.texts[text] = true
		}
	}
	return m
}

// tells is what the words say of a node, end by end of its path, the longest first.
func (m model) tells(node int) string {
	path := m.paths[node]
	want := told{fail: -1, out: -1}
	for from := range len(path) + 1 {
		end := path[from:]
		if number, is := m.number[end]; is && from > 0 && want.fail < 0 {
			want.fail = number
		}
		if !m.texts[end] {
			continue
		}
		want.ends = append(want.ends, len(end))
		if from > 0 && want.out < 0 {
			want.out = m.number[end]
		}
	}
	if len(want.ends) > 0 {
		want.longest = want.ends[0]
	}
	return want.String()
}

// order is all nodes by their paths: a shorter one first, and of two as long the one with the lower bytes.
func (m model) order() []int {
	var l []int
	for node := range m.paths {
		l = append(l, node)
	}
	slices.SortFunc(l, func(a, b int) int {
		if n := len(m.paths[a]) - len(m.paths[b]); n != 0 {
			return n
		}
		return strings.Compare(m.paths[a], m.paths[b])
	})
	return l
}

// others are numbers that are no nodes, where there are n of them.
func others(n int) []int {
	l := []int{-1, -2, -3, -n, -n - 1, n, n + 1, n + 2, 2*n + 1, 1 << 31, 1 << 32, 1<<32 + 1, math.MaxInt - 1, math.MaxInt, math.MinInt, math.MinInt + 1}
	return slices.DeleteFunc(l, func(i int) bool { return i >= 0 && i < n })
}

// check holds links against the words, number by number.
func check(t *testing.T, name string, x *links.Links, texts []string) {
	t.Helper()
	m := modelOf(texts)
	for node, path := range m.paths {
		if got, want := asks(x, node), m.tells(node); got != want {
			t.Errorf("%s: node %d, %.60q, tells %.300s, not %.300s", name, node, path, got, want)
		}
	}
	for _, node := range others(len(m.paths)) {
		if got := asks(x, node); got != nothing() {
			t.Errorf("%s: %d is no node, but tells %.300s", name, node, got)
		}
	}
	if got, want := x.Order(), m.order(); !slices.Equal(got, want) {
		t.Errorf("%s: Order is %d, not %d", name, got, want)
	}
}

// singles are the texts of one byte, from the last byte to the first.
func singles() []string {
	var l []string
	for c := 255; c >= 0; c-- {
		l = append(l, string([]byte{byte(c)}))
	}
	return l
}

// everyByte is each byte once, rising.
func everyByte() string {
	l := singles()
	slices.Reverse(l)
	return strings.Join(l, "")
}

// repeats are n texts of one byte, each an end of the next.
func repeats(c string, n int) []string {
	var l []string
	for i := range n {
		l = append(l, strings.Repeat(c, i+1))
	}
	return l
}

// binary are all texts of at most n bytes, of two bytes, the empty one among them.
func binary(n int) []string {
	all := []string{""}
	longest := all
	for range n {
		var longer []string
		for _, text := range longest {
			longer = append(longer, text+"\x00", text+"\xff")
		}
		all = append(all, longer...)
		longest = longer
	}
	return all
}

// short are all lists of at most 3 texts of at most 3 bytes, of two bytes.
func short() [][]string {
	all := [][]string{nil}
	longest := all
	for range 3 {
		var longer [][]string
		for _, l := range longest {
			for _, text := range binary(3) {
				longer = append(longer, append(slices.Clone(l), text))
			}
		}
		all = append(all, longer...)
		longest = longer
	}
	return all
}

// reversed is a list from its last text to its first.
func reversed(l []string) []string {
	l = slices.Clone(l)
	slices.Reverse(l)
	return l
}

// long are ordinary lists, and edges that the short ones don't have.
func long() [][]string {
	return [][]string{
		{"he", "she", "hers"},
		{"he", "she", "his", "hers", "e", ""},
		{"", "hers", "", "his", "she", "he", "she"},
		{"abcde", "bcd", "c"},
		{"c", "bcd", "abcde"},
		{"abcde", "cde", "e"},
		{"abcde", "bcdx", "cdy", "dz", "e"},
		{"abababac", "ababad", "bab", "ab"},
		{"abacabadabacaba", "bacab", "acab", "cab"},
		{"the Seine", "the Marne", "The Seine", "e S", "the", "ine", "\n", "Seine\n"},
		{"\xc3\x84", "\xc3\xa4", "\u212a", "\u0130", "\xc3", "\x80", "\xe2\x84", "x\xc3\xa4", "\xa4"},
		{"z", "\x80", "\x7f", "\xff", "\x01", "A", "a", "\x00", "zz", "z\xff", "z\x00", "zA"},
		{everyByte(), everyByte()[1:], everyByte()[128:], "\xff"},
		singles(),
		append(singles(), everyByte()),
		repeats("a", 40),
		reversed(repeats("\x00", 40)),
		append(repeats("\xff", 20), strings.Repeat("\xff", 30)+"\x00"),
		binary(6),
		reversed(binary(6)),
		{strings.Repeat("a", 300), strings.Repeat("a", 299) + "b", "aaa", "a"},
	}
}

// lists are all of them.
func lists() [][]string { return append(short(), long()...) }

func TestLinksAreTheWords(t *testing.T) {
	for _, l := range lists() {
		check(t, fmt.Sprintf("links of %.60q", l), build(l...), l)
	}
}

// P7.1

// falls are what a node's path falls to, by paths; no is what is told of no node.
type falls struct{ path, fail, out string }

const no = "none"

// pathOf is a node's path; no of -1.
func pathOf(x *trie.Trie, node int) string {
	if node == -1 {
		return no
	}
	return string(x.Path(node))
}

func TestFailAndOut(t *testing.T) {
	for _, x := range []struct {
		name  string
		texts []string
		want  []falls
	}{
		{"no text", nil, []falls{{"", no, no}}},
		{"the empty text alone", []string{""}, []falls{{"", no, no}}},
		{"the empty text several times", []string{"", "", ""}, []falls{{"", no, no}}},
		{"one byte", []string{"a"}, []falls{{"", no, no}, {"a", "", no}}},
		{"one byte and the empty text", []string{"", "a", ""}, []falls{{"", no, no}, {"a", "", no}}},
		{"the example", []string{"he", "she", "hers"}, []falls{
			{"h", "", no}, {"he", "", no}, {"s", "", no}, {"sh", "h", no}, {"she", "he", "he"}, {"her", "", no}, {"hers", "s", no}}},
		{"one text several times", []string{"aa", "aa", "aa"}, []falls{{"a", "", no}, {"aa", "a", no}}},
		{"a beginning that is an end, too", []string{"aba", "a"}, []falls{{"a", "", no}, {"ab", "", no}, {"aba", "a", "a"}}},
		{"a beginning that is none", []string{"a", "ab"}, []falls{{"a", "", no}, {"ab", "", no}}},
		{"an end, ahead", []string{"bc", "abc"}, []falls{{"ab", "b", no}, {"abc", "bc", "bc"}, {"bc", "", no}}},
		{"an end, behind", []string{"abc", "bc"}, []falls{{"ab", "b", no}, {"abc", "bc", "bc"}, {"bc", "", no}}},
		{"a piece within", []string{"abcd", "bc"}, []falls{{"ab", "b", no}, {"abc", "bc", "bc"}, {"abcd", "", no}}},
		{"a piece within, ahead", []string{"bc", "abcd"}, []falls{{"ab", "b", no}, {"abc", "bc", "bc"}, {"abcd", "", no}}},
		{"several ends that are paths", []string{"abab", "bax", "b"}, []falls{{"ab", "b", "b"}, {"aba", "ba", no}, {"abab", "ab", "b"}, {"ba", "a", no}}},
		{"a Fail that is no text", []string{"abcd", "bcx", "c"}, []falls{{"ab", "b", no}, {"abc", "bc", "c"}, {"bc", "c", "c"}, {"abcd", "", no}}},
		{"two Fails that are no texts", []string{"abcd", "bcdx", "cdx", "d"}, []falls{{"abcd", "bcd", "d"}, {"bcd", "cd", "d"}, {"cd", "d", "d"}, {"d", "", no}}},
		{"a Fail further back", []string{"aab", "aac"}, []falls{{"aa", "a", no}, {"aab", "", no}, {"aac", "", no}}},
		{"a Fail that falls itself", []string{"aaab", "ab"}, []falls{{"aaa", "aa", no}, {"aaab", "ab", "ab"}}},
		{"0 and 255", []string{"\x00\xff\x00", "\xff\x00", "\x00"}, []falls{{"\x00\xff", "\xff", no}, {"\x00\xff\x00", "\xff\x00", "\xff\x00"}, {"\xff\x00", "\x00", "\x00"}}},
		{"the empty text is no Out", []string{"ab", "", "b"}, []falls{{"a", "", no}, {"ab", "b", "b"}, {"b", "", no}}},
	} {
		tr := tree(x.texts...)
		l := links.Build(tr)
		for _, want := range x.want {
			node := tr.Find([]byte(want.path))
			if got := (falls{want.path, pathOf(tr, l.Fail(node)), pathOf(tr, l.Out(node))}); got != want {
				t.Errorf("%s: %q, not %q", x.name, got, want)
			}
		}
	}
}

// The root's Fail is told by no node, that of a node which has no other one by the root's number.
func TestFailByNumbers(t *testing.T) {
	x := build("ab", "b", "")
	for node, want := range []int{-1, 0, 3, 0} {
		if got := x.Fail(node); got != want {
			t.Errorf("Fail(%d) is %d, not %d", node, got, want)
		}
	}
	for node, want := range []int{-1, -1, 3, -1} {
		if got := x.Out(node); got != want {
			t.Errorf("Out(%d) is %d, not %d", node, got, want)
		}
	}
}

// P7.2

func TestEndsAndLongest(t *testing.T) {
	for _, x := range []struct {
		name  string
		texts []string
		path  string
		want  []int
	}{
		{"no text", nil, "", nil},
		{"the empty text", []string{""}, "", nil},
		{"the empty text among others", []string{"a", "", "ab", ""}, "", nil},
		{"the empty text below another", []string{"a", ""}, "a", []int{1}},
		{"the example", []string{"he", "she", "hers"}, "she", []int{3, 2}},
		{"none yet", []string{"he", "she", "hers"}, "sh", nil},
		{"its own alone", []string{"he", "she", "hers"}, "hers", []int{4}},
		{"one text several times", []string{"ab", "b", "ab", "b"}, "ab", []int{2, 1}},
		{"without its own", []string{"abcd", "bc", "c"}, "abc", []int{2, 1}},
		{"without its own and its Fail's", []string{"abcd", "bcx", "c"}, "abc", []int{1}},
		{"with its own, without its Fail's", []string{"abc", "bcx", "c"}, "abc", []int{3, 1}},
		{"a beginning is no end", []string{"abc", "a", "ab"}, "abc", []int{3}},
		{"a piece within is no end", []string{"abcd", "bc"}, "abcd", []int{4}},
		{"one byte repeated", repeats("a", 5), "aaaaa", []int{5, 4, 3, 2, 1}},
		{"one byte repeated, from the longest", reversed(repeats("a", 5)), "aaaa", []int{4, 3, 2, 1}},
		{"one byte repeated, some of them", []string{"aaaaaa", "aa", "aaaa"}, "aaaaa", []int{4, 2}},
		{"0 and 255", []string{"\x00\xff", "\xff", "\x00"}, "\x00\xff", []int{2, 1}},
		{"beyond ASCII", []string{"\xc3\xa4", "\xa4", "x\xc3\xa4"}, "x\xc3\xa4", []int{3, 2, 1}},
	} {
		tr := tree(x.texts...)
		l := links.Build(tr)
		node := tr.Find([]byte(x.path))
		if got := l.Ends(node); !slices.Equal(got, x.want) {
			t.Errorf("%s: Ends of %q is %d, not %d", x.name, x.path, got, x.want)
		}
		longest := 0
		if len(x.want) > 0 {
			longest = x.want[0]
		}
		if got := l.Longest(node); got != longest {
			t.Errorf("%s: Longest of %q is %d, not %d", x.name, x.path, got, longest)
		}
	}
}

func TestNoNode(t *testing.T) {
	for _, l := range append(long(), nil, []string{""}, []string{"a"}) {
		x := build(l...)
		for _, node := range others(tree(l...).Nodes()) {
			if got := asks(x, node); got != nothing() {
				t.Errorf("%.60q: %d tells %s", l, node, got)
			}
		}
	}
}

func TestNilLinksAndLinksOfNoTree(t *testing.T) {
	var none *links.Links
	for name, x := range map[string]*links.Links{"nil": none, "of a nil tree": links.Build(nil)} {
		for _, node := range append(others(3), 0, 1, 2) {
			if got := asks(x, node); got != nothing() {
				t.Errorf("%s: %d tells %s", name, node, got)
			}
		}
		if got := x.Order(); len(got) != 0 {
			t.Errorf("%s: Order is %d", name, got)
		}
	}
}

// P7.3

func TestOrder(t *testing.T) {
	for _, x := range []struct {
		texts []string
		want  []int
	}{
		{nil, []int{0}},
		{[]string{""}, []int{0}},
		{[]string{"", ""}, []int{0}},
		{[]string{"a"}, []int{0, 1}},
		{[]string{"abc"}, []int{0, 1, 2, 3}},
		{[]string{"ab", "a", "b"}, []int{0, 1, 3, 2}},
		{[]string{"ba", "ab"}, []int{0, 3, 1, 4, 2}},
		{[]string{"\xff", "a", "\x00"}, []int{0, 3, 2, 1}},
		{[]string{"\x80", "\x7f"}, []int{0, 2, 1}},
		{[]string{"bb", "ba", "ab", "aa"}, []int{0, 4, 1, 6, 5, 3, 2}},
		{[]string{"bcd", "a", "bce", "ax"}, []int{0, 4, 1, 6, 2, 3, 5}},
	} {
		if got := build(x.texts...).Order(); !slices.Equal(got, x.want) {
			t.Errorf("%q: Order is %d, not %d", x.texts, got, x.want)
		}
	}
}

// The chapter's own words, by what the tree tells: each node once, and its kids behind all that were led to ahead of them.
func TestOrderGoesByKids(t *testing.T) {
	for _, texts := range lists() {
		x := tree(texts...)
		want := []int{0}
		for place := 0; place < len(want); place++ {
			for _, c := range x.Kids(want[place]) {
				want = append(want, x.Step(want[place], c))
			}
		}
		if got := links.Build(x).Order(); !slices.Equal(got, want) || len(got) != x.Nodes() {
			t.Errorf("%.60q: Order is %d, not %d", texts, got, want)
		}
	}
}

// P7.4

func TestFailsAreShorter(t *testing.T) {
	for _, texts := range lists() {
		x := tree(texts...)
		l := links.Build(x)
		for node := range x.Nodes() {
			fail, out := l.Fail(node), l.Out(node)
			if (fail == -1) != (node == 0) || fail >= x.Nodes() || fail >= 0 && x.Depth(fail) >= x.Depth(node) {
				t.Errorf("%.60q: Fail(%d) is %d", texts, node, fail)
			}
			if out < -1 || out == 0 || out >= x.Nodes() || out > 0 && (x.Depth(out) > x.Depth(fail) || x.Word(out) < 0) {
				t.Errorf("%.60q: Out(%d) is %d", texts, node, out)
			}
		}
	}
}

func TestEndsAreItsOwnAndThoseOfItsOut(t *testing.T) {
	for _, texts := range lists() {
		x := tree(texts...)
		l := links.Build(x)
		for node := range x.Nodes() {
			var want []int
			if node != 0 && x.Word(node) >= 0 {
				want = []int{x.Depth(node)}
			}
			want = append(want, l.Ends(l.Out(node))...)
			if got := l.Ends(node); !slices.Equal(got, want) {
				t.Errorf("%.60q: Ends(%d) is %d, not %d", texts, node, got, want)
			}
		}
	}
}

// A text may be long; its last byte may fall all of the way back.
func TestLongText(t *testing.T) {
	n := 100000
	text := strings.Repeat("a", n)
	x := build(text+"b", "aa", text)
	if x.Fail(n) != n-1 || x.Fail(n+1) != 0 || x.Out(n) != 2 || x.Out(n+1) != -1 {
		t.Error(x.Fail(n), x.Fail(n+1), x.Out(n), x.Out(n+1))
	}
	if got := x.Ends(n); !slices.Equal(got, []int{n, 2}) || x.Longest(n) != n || x.Longest(n-1) != 2 || x.Longest(n+1) != n+1 {
		t.Error(got, x.Longest(n), x.Longest(n-1), x.Longest(n+1))
	}
	if got := x.Order(); len(got) != n+2 || !slices.IsSorted(got) {
		t.Error(len(got))
	}
}

// DOC.md, rules 3 and 4

// whole is all that a tree tells, node by node.
func whole(x *trie.Trie) string {
	var b strings.Builder
	for node := range x.Nodes() + 1 {
		fmt.Fprintf(&b, "%q %d %d %d %q:", x.Path(node), x.Depth(node), x.Parent(node), x.Word(node), x.Kids(node))
		for _, c := range x.Kids(node) {
			fmt.Fprintf(&b, " %d", x.Step(node, c))
		}
		fmt.Fprintf(&b, " %d\n", x.Find(x.Path(node)))
	}
	return b.String()
}

func TestTreeIsNotChanged(t *testing.T) {
	for _, texts := range long() {
		x := tree(texts...)
		ahead := whole(x)
		l := links.Build(x)
		for node := range x.Nodes() {
			asks(l, node)
		}
		l.Order()
		if whole(x) != ahead {
			t.Errorf("%.60q: the tree was changed", texts)
		}
	}
}

// Another tree is put where the one that was handed in stood.
func TestTreeIsNotKept(t *testing.T) {
	for _, texts := range long() {
		x := tree(texts...)
		l := links.Build(x)
		*x = *tree("b", "ab", "cab")
		check(t, fmt.Sprintf("links of %.60q, its tree replaced", texts), l, texts)
	}
}

// spoil changes all numbers of a list, and those behind it where there is room.
func spoil(l []int) {
	l = l[:cap(l)]
	for i := range l {
		l[i] = -77 - l[i]
	}
}

// Whoever changes what Ends or Order answered, or puts numbers behind it, changes neither the links nor another answer.
func TestAnswersAreNewMemory(t *testing.T) {
	for _, texts := range long() {
		x := build(texts...)
		for node := range tree(texts...).Nodes() {
			ends, order := x.Ends(node), x.Order()
			otherEnds, otherOrder := x.Ends(node), x.Order()
			ahead := fmt.Sprint(otherEnds, otherOrder)
			for _, l := range [][]int{ends, order} {
				_ = append(l, 5, 6, 7)
				spoil(l)
			}
			if fmt.Sprint(otherEnds, otherOrder) != ahead {
				t.Fatalf("%.60q, node %d: answers share memory", texts, node)
			}
		}
		check(t, fmt.Sprintf("links of %.60q, their answers spoiled", texts), x, texts)
	}
}

// Neither links that are made later nor others of the same tree play a part in the first ones.
func TestLinksAreAlone(t *testing.T) {
	texts := []string{"he", "she", "hers"}
	x := tree(texts...)
	a, b := links.Build(x), links.Build(x)
	other := build("e", "she")
	spoil(a.Order())
	for name, l := range map[string]*links.Links{"a": a, "b": b, "of the tree once more": links.Build(x)} {
		check(t, name, l, texts)
	}
	check(t, "other", other, []string{"e", "she"})
	check(t, "of a tree without texts", build(), nil)
}

func TestAskingChangesNothing(t *testing.T) {
	texts := []string{"abab", "bax", "b", ""}
	x := build(texts...)
	for range 3 {
		for _, node := range others(1) {
			asks(x, node)
		}
		check(t, "asked", x, texts)
	}
}

func TestSameTreesHaveTheSameAnswers(t *testing.T) {
	for _, texts := range long() {
		a, b := build(texts...), build(texts...)
		for node := range tree(texts...).Nodes() {
			if asks(a, node) != asks(b, node) {
				t.Errorf("%.60q: node %d", texts, node)
			}
		}
		if !slices.Equal(a.Order(), b.Order()) {
			t.Errorf("%.60q: orders", texts)
		}
	}
}
