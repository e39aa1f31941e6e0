package back_test

import (
	"fmt"
	"math"
	"slices"
	"strings"
	"testing"

	"seine/back"
	"seine/trie"
)

// build is Build, of strings.
func build(l ...string) *back.Back { return back.Build(asBytes(l)...) }

// asBytes is strings as texts, each in memory of its own.
func asBytes(l []string) [][]byte {
	var b [][]byte
	for _, text := range l {
		b = append(b, []byte(text))
	}
	return b
}

// turned is a text turned round by hand.
func turned(text string) string {
	var b []byte
	for i := len(text) - 1; i >= 0; i-- {
		b = append(b, text[i])
	}
	return string(b)
}

// textsOf are those that aren't empty.
func textsOf(l []string) []string {
	var texts []string
	for _, text := range l {
		if text != "" {
			texts = append(texts, text)
		}
	}
	return texts
}

// turnedTree is the tree of the texts that aren't empty, each turned round by hand.
func turnedTree(l []string) *trie.Trie {
	var texts []string
	for _, text := range textsOf(l) {
		texts = append(texts, turned(text))
	}
	return trie.Build(asBytes(texts)...)
}

// leastOf is how many bytes the shortest text has, by the words alone.
func leastOf(l []string) int {
	least := 0
	for i, text := range textsOf(l) {
		if i == 0 || len(text) < least {
			least = len(text)
		}
	}
	return least
}

// nearsOf are the least k such that a byte is the k-th last one of a text, by the words alone, for each byte.
func nearsOf(l []string) [256]int {
	var nears [256]int
	for _, text := range l {
		for k := 1; k <= len(text); k++ {
			c := text[len(text)-k]
			if nears[c] == 0 || k < nears[c] {
				nears[c] = k
			}
		}
	}
	return nears
}

// nears are what Near tells of each byte.
func nears(x *back.Back) [256]int {
	var l [256]int
	for c := range l {
		l[c] = x.Near(byte(c))
	}
	return l
}

// endsOf are the ends of the texts, those that are empty among them.
func endsOf(l []string) map[string]bool {
	ends := map[string]bool{}
	for _, text := range textsOf(l) {
		for i := range len(text) + 1 {
			ends[text[i:]] = true
		}
	}
	return ends
}

// others are numbers that are no nodes, where there are n of them.
func others(n int) []int {
	l := []int{-1, -2, -3, -n, -n - 1, n, n + 1, n + 2, 2*n + 1, 1 << 31, 1 << 32, 1<<32 + 1, math.MaxInt - 1, math.MaxInt, math.MinInt, math.MinInt + 1}
	return slices.DeleteFunc(l, func(i int) bool { return i >= 0 && i < n })
}

// everyByte is each byte once, rising.
func everyByte() string {
	var b []byte
	for c := range 256 {
		b = append(b, byte(c))
	}
	return string(b)
}

// singles are the texts of one byte, from the last byte to the first.
func singles() []string {
	var l []string
	for c := 255; c >= 0; c-- {
		l = append(l, string([]byte{byte(c)}))
	}
	return l
}

// fewOf are all lists of at most n of some texts.
func fewOf(texts []string, n int) [][]string {
	all := [][]string{nil}
	longest := all
	for range n {
		var longer [][]string
		for _, l := range longest {
			for _, text := range texts {
				longer = append(longer, append(slices.Clone(l), text))
			}
		}
		all = append(all, longer...)
		longest = longer
	}
	return all
}

// textsUpTo are all texts of at most n bytes, of some bytes.
func textsUpTo(some string, n int) []string {
	all, last := []string{""}, []string{""}
	for range n {
		var next []string
		for _, text := range last {
			for i := range len(some) {
				next = append(next, text+some[i:i+1])
			}
		}
		all, last = append(all, next...), next
	}
	return all
}

// short are lists of all short texts of two bytes: few of them that are longer, more that are shorter.
func short() [][]string {
	return append(fewOf(textsUpTo("ab", 3), 3), fewOf(textsUpTo("\x00\xff", 2), 4)...)
}

// long are ordinary lists, and edges that the short ones don't have.
func long() [][]string {
	var many []string
	for i := range 300 {
		many = append(many, fmt.Sprintf("%x", i*37%256))
	}
	return [][]string{
		{"cab", "b"},
		{"abc", "bc"},
		{"she", "", "he", "hers"},
		{"he", "she", "his", "hers"},
		{"ab", "cab", "b", "dcab", ""},
		{"", "", "abba", "", "a", "abba", ""},
		{"the Seine", "the Marne", "The Seine", "the Oise", "e", "the Seine\n", "\n", ""},
		{"\x00", "\x00\x00", "\x00\xff", "\xff", "\xff\x00", "\xff\xff", "\x00\x00\x00"},
		{"\x00\x00\x00", "\xff\xff\xff", "\x00\x00", "", "\x80\x7f"},
		{"\xc3\x84", "\xc3\xa4", "\u212a", "\u0130", "\xc3", "\x80", "\xe2\x84"},
		{"z", "\x80", "\x7f", "\xff", "\x01", "A", "a", "\x00", "zz", "z\xff", "z\x00", "zA"},
		{everyByte()},
		{everyByte(), everyByte(), everyByte()[1:], everyByte()[:128]},
		singles(),
		append(singles(), singles()...),
		many,
		{strings.Repeat("a", 300), strings.Repeat("a", 301), "b" + strings.Repeat("a", 299), "a"},
		{strings.Repeat("ab", 100), strings.Repeat("ba", 100), strings.Repeat("ab", 7)},
	}
}

// lists are all of them.
func lists() [][]string { return append(short(), long()...) }

// trees tells of what two trees say different things; nothing, if they are alike.
func trees(x, y *trie.Trie) string {
	if x.Nodes() != y.Nodes() {
		return fmt.Sprintf("%d nodes, not %d", x.Nodes(), y.Nodes())
	}
	for node := range x.Nodes() {
		got := fmt.Sprintf("%.60q, %d, %d, %d, %.60q", x.Path(node), x.Depth(node), x.Parent(node), x.Word(node), x.Kids(node))
		want := fmt.Sprintf("%.60q, %d, %d, %d, %.60q", y.Path(node), y.Depth(node), y.Parent(node), y.Word(node), y.Kids(node))
		if got != want {
			return fmt.Sprintf("node %d: %s, not %s", node, got, want)
		}
		for _, c := range y.Kids(node) {
			if x.Step(node, c) != y.Step(node, c) {
				return fmt.Sprintf("node %d: %d leads to %d, not %d", node, c, x.Step(node, c), y.Step(node, c))
			}
		}
	}
	return ""
}

// check holds all that is answered of some texts against the words.
func check(t *testing.T, name string, x *back.Back, l []string) {
	t.Helper()
	want := turnedTree(l)
	if told := trees(x.Trie, want); told != "" {
		t.Errorf("%s: %s", name, told)
	}
	if got := x.Least(); got != leastOf(l) {
		t.Errorf("%s: Least is %d, not %d", name, got, leastOf(l))
	}
	if got, want := nears(x), nearsOf(l); got != want {
		t.Errorf("%s: Near is %v, not %v", name, got, want)
	}
	texts := textsOf(l)
	for node := range want.Nodes() {
		end := turned(string(want.Path(node)))
		if got := string(x.End(node)); got != end {
			t.Errorf("%s: End(%d) is %.60q, not %.60q", name, node, got, end)
		}
		if got := x.Whole(node); got != slices.Contains(texts, end) {
			t.Errorf("%s: Whole(%d), of %.60q, is %v", name, node, end, got)
		}
	}
	for _, node := range others(want.Nodes()) {
		if x.Whole(node) || len(x.End(node)) != 0 {
			t.Errorf("%s: %d is no node, but tells %v, %q", name, node, x.Whole(node), x.End(node))
		}
	}
}

func TestBackIsTheWords(t *testing.T) {
	for _, l := range lists() {
		check(t, fmt.Sprintf("Build(%.60q)", l), build(l...), l)
	}
}

// P14.1

func TestTurn(t *testing.T) {
	for _, x := range []struct{ text, want string }{
		{"", ""},
		{"a", "a"},
		{"\x00", "\x00"},
		{"\xff", "\xff"},
		{"ab", "ba"},
		{"abc", "cba"},
		{"abcd", "dcba"},
		{"aab", "baa"},
		{"aaaa", "aaaa"},
		{"abba", "abba"},
		{"abcba", "abcba"},
		{"Seine\n", "\nenieS"},
		{"\x00\x01\xff", "\xff\x01\x00"},
		{"\x7f\x80", "\x80\x7f"},
		// Bytes are turned, not runes.
		{"\xc3\xa4\xc3\xb6", "\xb6\xc3\xa4\xc3"},
		{everyByte(), turned(everyByte())},
		{strings.Repeat("abc", 100000), strings.Repeat("cba", 100000)},
	} {
		if got := string(back.Turn([]byte(x.text))); got != x.want {
			t.Errorf("Turn(%.60q) is %.60q, not %.60q", x.text, got, x.want)
		}
	}
	if got := back.Turn(nil); len(got) != 0 {
		t.Errorf("Turn(nil) is %q", got)
	}
}

func TestTurnOfAllShortTexts(t *testing.T) {
	for _, text := range append(textsUpTo("ab", 9), textsUpTo("\x00\x80\xff", 5)...) {
		got := back.Turn([]byte(text))
		if string(got) != turned(text) {
			t.Errorf("Turn(%q) is %q", text, got)
		}
		if again := back.Turn(got); string(again) != text {
			t.Errorf("%q, turned twice, is %q", text, again)
		}
	}
}

// The example of the chapter, node by node.
func TestExample(t *testing.T) {
	x := build("cab", "b")
	for node, end := range []string{"", "b", "ab", "cab"} {
		if got := string(x.End(node)); got != end {
			t.Errorf("End(%d) is %q, not %q", node, got, end)
		}
		if got, want := x.Whole(node), end == "b" || end == "cab"; got != want {
			t.Errorf("Whole(%d) is %v", node, got)
		}
	}
	if x.Nodes() != 4 || x.Least() != 1 || x.Near('a') != 2 || x.Near('b') != 1 || x.Near('c') != 3 || x.Near('d') != 0 {
		t.Error(x.Nodes(), x.Least(), nears(x))
	}
}

// The nodes are numbered in the order of l, whatever the texts' lengths; what is empty has no place among them.
func TestTreeIsInTheOrderOfTheList(t *testing.T) {
	for _, x := range []struct {
		texts []string
		paths []string
		words []int
	}{
		{nil, []string{""}, []int{-1}},
		{[]string{""}, []string{""}, []int{-1}},
		{[]string{"ab"}, []string{"", "b", "ba"}, []int{-1, -1, 0}},
		{[]string{"ab", "b"}, []string{"", "b", "ba"}, []int{-1, 1, 0}},
		{[]string{"b", "ab"}, []string{"", "b", "ba"}, []int{-1, 0, 1}},
		{[]string{"", "b", "", "ab"}, []string{"", "b", "ba"}, []int{-1, 0, 1}},
		{[]string{"ab", "ab", "b", "b"}, []string{"", "b", "ba"}, []int{-1, 2, 0}},
		{[]string{"cab", "x", "dab"}, []string{"", "b", "ba", "bac", "x", "bad"}, []int{-1, -1, -1, 0, 1, 2}},
		{[]string{"dab", "x", "cab"}, []string{"", "b", "ba", "bad", "x", "bac"}, []int{-1, -1, -1, 0, 1, 2}},
		{[]string{"ab", "ba"}, []string{"", "b", "ba", "a", "ab"}, []int{-1, -1, 0, -1, 1}},
		{[]string{"\xff\x00", "\x00\xff"}, []string{"", "\x00", "\x00\xff", "\xff", "\xff\x00"}, []int{-1, -1, 0, -1, 1}},
	} {
		tree := build(x.texts...)
		if tree.Nodes() != len(x.paths) {
			t.Errorf("%q: %d nodes, not %d", x.texts, tree.Nodes(), len(x.paths))
		}
		for node, path := range x.paths {
			if got := string(tree.Path(node)); got != path || tree.Find([]byte(path)) != node {
				t.Errorf("%q: Path(%d) is %q, not %q", x.texts, node, got, path)
			}
			if got := tree.Word(node); got != x.words[node] {
				t.Errorf("%q: Word(%d) is %d, not %d", x.texts, node, got, x.words[node])
			}
			if got := tree.Whole(node); got != (x.words[node] >= 0) {
				t.Errorf("%q: Whole(%d) is %v", x.texts, node, got)
			}
		}
	}
}

func TestNoText(t *testing.T) {
	for name, x := range map[string]*back.Back{
		"Build()":                    back.Build(),
		"Build of no list":           back.Build([][]byte(nil)...),
		"Build of an empty list":     back.Build([][]byte{}...),
		"Build of a nil text":        back.Build(nil),
		"Build of an empty text":     back.Build([]byte{}),
		"Build of several empty":     back.Build(nil, []byte{}, nil, []byte("a")[:0]),
		"Build of one nil in a list": back.Build([][]byte{nil}...),
	} {
		if x == nil || x.Trie == nil {
			t.Fatalf("%s: %v", name, x)
		}
		check(t, name, x, nil)
		if x.Nodes() != 1 || x.Word(0) != -1 || x.Least() != 0 || x.Whole(0) || len(x.End(0)) != 0 || nears(x) != [256]int{} {
			t.Errorf("%s: %d nodes, Least %d", name, x.Nodes(), x.Least())
		}
	}
}

func TestLeast(t *testing.T) {
	for _, x := range []struct {
		name  string
		texts []string
		want  int
	}{
		{"no text", nil, 0},
		{"one empty text", []string{""}, 0},
		{"empty texts", []string{"", "", ""}, 0},
		{"one byte", []string{"a"}, 1},
		{"one text", []string{"abc"}, 3},
		{"a text twice", []string{"abc", "abc"}, 3},
		{"the shortest one first", []string{"ab", "cde", "fghi"}, 2},
		{"the shortest one in the middle", []string{"cde", "ab", "fghi"}, 2},
		{"the shortest one last", []string{"fghi", "cde", "ab"}, 2},
		{"all as long", []string{"abc", "bca", "cab"}, 3},
		{"an empty text first", []string{"", "abc", "ab"}, 2},
		{"an empty text in the middle", []string{"abc", "", "ab"}, 2},
		{"an empty text last", []string{"abc", "ab", ""}, 2},
		{"an end of another one", []string{"abcd", "cd"}, 2},
		{"an end of another one, first", []string{"cd", "abcd"}, 2},
		{"a front of another one", []string{"abcd", "ab"}, 2},
		{"ends that are shared", []string{"xabcd", "yabcd"}, 5},
		{"one byte many times", []string{"aaaa", "aaa", "aaaaa"}, 3},
		{"the bytes 0 and 255", []string{"\x00\x00", "\xff\xff\xff"}, 2},
		{"each byte", []string{everyByte()}, 256},
	} {
		if got := build(x.texts...).Least(); got != x.want {
			t.Errorf("%s: %d, not %d", x.name, got, x.want)
		}
	}
}

// How long a text is counts, not how much room there is behind it.
func TestTextsEndAtTheirLengths(t *testing.T) {
	room := []byte("abcdef")
	x := back.Build(room[:2], room[3:4], room[:0])
	check(t, "parts of a text", x, []string{"ab", "d"})
	if got := string(back.Turn(room[1:4])); got != "dcb" {
		t.Errorf("a part, turned, is %q", got)
	}
}

// The tree's methods are Back's, too.
func TestTreesMethodsArePromoted(t *testing.T) {
	for _, l := range long() {
		x := build(l...)
		want := turnedTree(l)
		if x.Nodes() != want.Nodes() {
			t.Errorf("%.60q: %d nodes", l, x.Nodes())
		}
		for node := range want.Nodes() {
			path := want.Path(node)
			if x.Find(path) != node || string(x.Path(node)) != string(path) || x.Depth(node) != want.Depth(node) || x.Parent(node) != want.Parent(node) || x.Word(node) != want.Word(node) || string(x.Kids(node)) != string(want.Kids(node)) {
				t.Errorf("%.60q: node %d isn't the tree's", l, node)
			}
			for c := range 256 {
				if x.Step(node, byte(c)) != want.Step(node, byte(c)) {
					t.Errorf("%.60q: step from %d by %d", l, node, c)
				}
			}
		}
	}
}

// P14.2

func TestWhole(t *testing.T) {
	for _, x := range []struct {
		texts []string
		ends  []string // of the nodes
		whole []string
	}{
		{nil, []string{""}, nil},
		{[]string{""}, []string{""}, nil},
		{[]string{"", "a"}, []string{"", "a"}, []string{"a"}},
		{[]string{"abc"}, []string{"", "c", "bc", "abc"}, []string{"abc"}},
		{[]string{"abc", "bc"}, []string{"", "c", "bc", "abc"}, []string{"abc", "bc"}},
		{[]string{"bc", "abc"}, []string{"", "c", "bc", "abc"}, []string{"abc", "bc"}},
		// A text's front is no end of it.
		{[]string{"abc", "ab"}, []string{"", "c", "bc", "abc", "b", "ab"}, []string{"abc", "ab"}},
		{[]string{"aaa", "a"}, []string{"", "a", "aa", "aaa"}, []string{"aaa", "a"}},
		{[]string{"ab", "ab"}, []string{"", "b", "ab"}, []string{"ab"}},
		{[]string{"\x00", "\xff\x00"}, []string{"", "\x00", "\xff\x00"}, []string{"\x00", "\xff\x00"}},
		// A text that is one turned round is another one.
		{[]string{"ab", "ba"}, []string{"", "b", "ab", "a", "ba"}, []string{"ab", "ba"}},
		{[]string{"she", "", "he", "hers"}, []string{"", "e", "he", "she", "s", "rs", "ers", "hers"}, []string{"she", "he", "hers"}},
	} {
		b := build(x.texts...)
		if b.Nodes() != len(x.ends) {
			t.Errorf("%q: %d nodes, not %d", x.texts, b.Nodes(), len(x.ends))
		}
		for node, end := range x.ends {
			if got := string(b.End(node)); got != end {
				t.Errorf("%q: End(%d) is %q, not %q", x.texts, node, got, end)
			}
			if got := b.Whole(node); got != slices.Contains(x.whole, end) {
				t.Errorf("%q: Whole(%d), of %q, is %v", x.texts, node, end, got)
			}
		}
	}
}

func TestNear(t *testing.T) {
	for _, x := range []struct {
		name  string
		texts []string
		c     byte
		want  int
	}{
		{"no text", nil, 'a', 0},
		{"no text, the byte 0", nil, 0, 0},
		{"an empty text", []string{""}, 0, 0},
		{"in no text", []string{"abc", "bca"}, 'd', 0},
		{"a large letter is another byte", []string{"abc"}, 'A', 0},
		{"one byte", []string{"a"}, 'a', 1},
		{"at the end", []string{"abc"}, 'c', 1},
		{"in the middle", []string{"abc"}, 'b', 2},
		{"at the front", []string{"abc"}, 'a', 3},
		{"at a long text's front alone", []string{"xabcabc", "abc", "bc"}, 'x', 7},
		{"at an end alone", []string{"abc", "ab", "abx"}, 'x', 1},
		{"twice in one text", []string{"abcabd"}, 'a', 3},
		{"twice in one text, once at its end", []string{"abcabd"}, 'd', 1},
		{"one byte many times", []string{"aaaa"}, 'a', 1},
		{"in several texts, the nearest first", []string{"xa", "xbc", "xdef"}, 'x', 2},
		{"in several texts, the nearest in the middle", []string{"xbc", "xa", "xdef"}, 'x', 2},
		{"in several texts, the nearest last", []string{"xdef", "xbc", "xa"}, 'x', 2},
		{"in several texts, at one distance", []string{"xab", "xcd"}, 'x', 3},
		{"nearest behind an end that is shared", []string{"xyab", "xab"}, 'x', 3},
		{"far in the first text, at the second one's end", []string{"xabc", "abcx"}, 'x', 1},
		{"a text's front is another one's end", []string{"ab", "ca"}, 'a', 1},
		{"the shortest text plays no part", []string{"a", "xbcd"}, 'x', 4},
		{"the byte 0", []string{"\x00a", "\x00bc"}, 0, 2},
		{"the byte 0 in no text", []string{"abc"}, 0, 0},
		{"the byte 255", []string{"\xffab"}, 255, 3},
		{"the byte 255 in no text", []string{"abc"}, 255, 0},
		{"the byte 128", []string{"\x80\x7f"}, 128, 2},
		{"the byte 127", []string{"\x80\x7f"}, 127, 1},
		{"an empty text among others", []string{"", "ba", ""}, 'b', 2},
	} {
		if got := build(x.texts...).Near(x.c); got != x.want {
			t.Errorf("%s: %d, not %d", x.name, got, x.want)
		}
	}
}

func TestNearOfEachByte(t *testing.T) {
	x := build(everyByte())
	for c := range 256 {
		if got := x.Near(byte(c)); got != 256-c {
			t.Errorf("Near(%d) is %d", c, got)
		}
	}
	x = build(everyByte(), turned(everyByte()))
	for c := range 256 {
		if got := x.Near(byte(c)); got != min(256-c, c+1) {
			t.Errorf("both ways Near(%d) is %d", c, got)
		}
	}
}

func TestNoNode(t *testing.T) {
	for _, l := range long() {
		x := build(l...)
		for _, node := range others(x.Nodes()) {
			if x.Whole(node) {
				t.Errorf("%.60q: %d is Whole", l, node)
			}
			if got := x.End(node); len(got) != 0 {
				t.Errorf("%.60q: End(%d) is %q", l, node, got)
			}
		}
	}
}

func TestNilBack(t *testing.T) {
	var x *back.Back
	if got := x.Least(); got != 0 {
		t.Errorf("Least is %d", got)
	}
	for _, node := range append(others(3), 0, 1, 2) {
		if x.Whole(node) {
			t.Errorf("%d is Whole", node)
		}
		if got := x.End(node); len(got) != 0 {
			t.Errorf("End(%d) is %q", node, got)
		}
	}
	if got := nears(x); got != [256]int{} {
		t.Errorf("Near is %v", got)
	}
}

// P14.3

func TestEachEndIsAnEndOfAText(t *testing.T) {
	for _, l := range lists() {
		x := build(l...)
		texts := textsOf(l)
		// Without texts the root is there all the same.
		for node := range x.Nodes() {
			end := string(x.End(node))
			is := slices.ContainsFunc(texts, func(text string) bool { return strings.HasSuffix(text, end) })
			if !is && (len(texts) > 0 || node > 0) {
				t.Errorf("%.60q: End(%d) is %.60q", l, node, end)
			}
		}
	}
}

func TestEachEndOfATextIsOfOneNode(t *testing.T) {
	for _, l := range lists() {
		x := build(l...)
		times := map[string]int{}
		for node := range x.Nodes() {
			times[string(x.End(node))]++
		}
		for end := range endsOf(l) {
			if times[end] != 1 {
				t.Errorf("%.60q: %.60q is the End of %d nodes", l, end, times[end])
			}
		}
	}
}

// Texts may be long, and a shorter one's nodes are then the longer one's, up to where they part.
func TestLongTexts(t *testing.T) {
	const n = 100000
	text := "x" + strings.Repeat("seine", n/5)
	x := build(text, text[n/2:], "y"+text[n/2+1:])
	if x.Nodes() != n+1+1+1 || x.Least() != n/2+1 {
		t.Errorf("%d nodes, Least %d", x.Nodes(), x.Least())
	}
	if x.Near('x') != n+1 || x.Near('y') != n/2+1 || x.Near('e') != 1 || x.Near('s') != 5 || x.Near('z') != 0 {
		t.Error(x.Near('x'), x.Near('y'), x.Near('e'), x.Near('s'), x.Near('z'))
	}
	for _, node := range []int{0, 1, 2, 5, n / 2, n - 1, n, n + 1} {
		if got := string(x.End(node)); got != text[len(text)-node:] || x.Whole(node) != (node == n/2+1 || node == n+1) {
			t.Errorf("End(%d) has %d bytes, Whole is %v", node, len(got), x.Whole(node))
		}
	}
	if !x.Whole(n+2) || string(x.End(n+2)) != "y"+text[n/2+1:] {
		t.Errorf("End(%d) has %d bytes", n+2, len(x.End(n+2)))
	}
}

// DOC.md, rules 3 and 4

// withRoom is a text with bytes behind it, where there is room; they aren't the function's to change either.
func withRoom(text string) (room, part []byte) {
	room = []byte(text + "Tail of it")
	return room, room[:len(text)]
}

// spoil changes all bytes of a text, and those behind it where there is room.
func spoil(b []byte) {
	b = b[:cap(b)]
	for i := range b {
		b[i] ^= 0x5a
	}
}

func TestNothingHandedInIsChanged(t *testing.T) {
	for _, l := range long() {
		var rooms, parts [][]byte
		for _, text := range l {
			room, part := withRoom(text)
			rooms, parts = append(rooms, room), append(parts, part)
		}
		ahead := fmt.Sprintf("%q", rooms)
		x := back.Build(parts...)
		for _, part := range parts {
			back.Turn(part)
		}
		x.End(x.Nodes() - 1)
		x.Least()
		nears(x)
		if got := fmt.Sprintf("%q", rooms); got != ahead {
			t.Errorf("%.60q was changed to %.60q", ahead, got)
		}
	}
}

func TestBuildChangesNoList(t *testing.T) {
	room := [][]byte{nil, []byte("ab"), {}, []byte("b"), []byte("ab"), []byte("behind")}
	back.Build(room[:5]...)
	if got := fmt.Sprintf("%q", room); got != `["" "ab" "" "b" "ab" "behind"]` {
		t.Error(got)
	}
}

// Texts are spoiled, and others put in their places, behind Build's back.
func TestBuildKeepsNothing(t *testing.T) {
	for _, l := range long() {
		own := asBytes(l)
		x := back.Build(own...)
		for i := range own {
			spoil(own[i])
			own[i] = []byte("other")
		}
		check(t, fmt.Sprintf("Build(%.60q), spoiled", l), x, l)
	}
}

// One text's memory, handed in as several: it is turned round for neither the first nor the last.
func TestTextsThatShareMemory(t *testing.T) {
	room := []byte("aabac")
	x := back.Build(room[:3], room[2:], room[1:4], room, room, room[:0])
	if string(room) != "aabac" {
		t.Errorf("the texts' memory is now %q", room)
	}
	spoil(room)
	check(t, "texts of one memory", x, []string{"aab", "bac", "aba", "aabac", "aabac"})
}

// What Turn was handed may be changed afterwards, and so may what it answered.
func TestTurnIsNewMemory(t *testing.T) {
	for _, text := range append(textsUpTo("ab", 4), everyByte(), "the Seine") {
		room, own := withRoom(text)
		got := back.Turn(own)
		other := back.Turn(own)
		if string(room) != text+"Tail of it" {
			t.Errorf("%.60q was changed to %.60q", text, room)
		}
		_ = append(got, "more"...)
		spoil(got)
		if string(room) != text+"Tail of it" || string(other) != turned(text) {
			t.Errorf("what Turn(%.60q) answered shares memory", text)
		}
		spoil(room)
		if string(other) != turned(text) {
			t.Errorf("Turn(%.60q) is changed with what was handed in", text)
		}
	}
}

// Whoever changes what End answered, or puts bytes behind it, changes neither the tree nor another answer.
func TestEndIsNewMemory(t *testing.T) {
	for _, l := range long() {
		x := build(l...)
		for node := range x.Nodes() {
			end, other := x.End(node), x.End(node)
			ahead := string(other)
			_ = append(end, "more"...)
			spoil(end)
			if string(other) != ahead || string(x.End(node)) != ahead {
				t.Fatalf("%.60q, node %d: answers share memory", l, node)
			}
		}
		check(t, fmt.Sprintf("Build(%.60q), its answers spoiled", l), x, l)
	}
}

// Neither a Back that is made later nor one that is made of the same texts plays a part in another.
func TestBacksAreAlone(t *testing.T) {
	l := asBytes([]string{"ab", "a", "b"})
	a := back.Build(l...)
	b := back.Build(l[1:]...)
	c := build("xyz", "ab")
	check(t, "a", a, []string{"ab", "a", "b"})
	check(t, "b", b, []string{"a", "b"})
	check(t, "c", c, []string{"xyz", "ab"})
	check(t, "one without texts", back.Build(), nil)
}

// What is asked plays no part in what is answered next.
func TestAskingChangesNothing(t *testing.T) {
	l := []string{"cab", "b", "dab"}
	x := build(l...)
	for range 3 {
		for _, node := range append(others(5), 0, 1, 2, 3, 4) {
			x.Whole(node)
			x.End(node)
		}
		x.Find([]byte("xyz"))
		x.Least()
		nears(x)
		check(t, "asked", x, l)
	}
}
