package trie_test

import (
	"bytes"
	"fmt"
	"math"
	"slices"
	"strings"
	"testing"

	"seine/trie"
)

// build is Build, of strings.
func build(l ...string) *trie.Trie { return trie.Build(asBytes(l)...) }

// asBytes is strings as texts, each in memory of its own.
func asBytes(l []string) [][]byte {
	var b [][]byte
	for _, text := range l {
		b = append(b, []byte(text))
	}
	return b
}

// model is the words: the texts, and the nodes' beginnings in the order of their numbers.
type model struct {
	texts  []string
	nodes  []string
	number map[string]int
}

// modelOf numbers the beginnings text by text, from the shortest to the longest, those that aren't numbered yet.
func modelOf(texts []string) model {
	m := model{texts: texts, nodes: []string{""}, number: map[string]int{"": 0}}
	for _, text := range texts {
		for n := range len(text) + 1 {
			if _, is := m.number[text[:n]]; !is {
				m.number[text[:n]] = len(m.nodes)
				m.nodes = append(m.nodes, text[:n])
			}
		}
	}
	return m
}

// find is the node of a beginning, and -1 of what is none.
func (m model) find(b string) int {
	if node, is := m.number[b]; is {
		return node
	}
	return -1
}

// told is what a tree tells of a number.
type told struct {
	path                string
	depth, parent, word int
	kids                string
}

// String is what is told, its bytes to be read.
func (x told) String() string {
	return fmt.Sprintf("Path %.60q, Depth %d, Parent %d, Word %d, Kids %.60q", x.path, x.depth, x.parent, x.word, x.kids)
}

// nothing is what is told of a number that is no node.
func nothing() told { return told{"", 0, -1, -1, ""} }

// asks is all that a tree tells of a number, but for its steps.
func asks(x *trie.Trie, node int) told {
	return told{string(x.Path(node)), x.Depth(node), x.Parent(node), x.Word(node), string(x.Kids(node))}
}

// tells is what the words say of a node.
func (m model) tells(node int) told {
	path := m.nodes[node]
	want := told{path: path, depth: len(path), parent: -1, word: slices.Index(m.texts, path)}
	if len(path) > 0 {
		want.parent = m.find(path[:len(path)-1])
	}
	var kids []byte
	for c := range 256 {
		if m.find(path+string([]byte{byte(c)})) >= 0 {
			kids = append(kids, byte(c))
		}
	}
	want.kids = string(kids)
	return want
}

// steps are the nodes to which the bytes lead, from the first to the last.
func steps(x *trie.Trie, node int) [256]int {
	var l [256]int
	for c := range l {
		l[c] = x.Step(node, byte(c))
	}
	return l
}

// steps are the nodes of a node's Path and each byte.
func (m model) steps(node int) [256]int {
	var l [256]int
	for c := range l {
		l[c] = m.find(m.nodes[node] + string([]byte{byte(c)}))
	}
	return l
}

// nowhere is where bytes lead from a number that is no node.
func nowhere() [256]int {
	var l [256]int
	for c := range l {
		l[c] = -1
	}
	return l
}

// others are numbers that are no nodes, where there are n of them.
func others(n int) []int {
	l := []int{-1, -2, -3, -n - 1, n, n + 1, n + 2, 2*n + 1, 1 << 31, 1 << 32, 1<<32 + 1, math.MaxInt - 1, math.MaxInt, math.MinInt, math.MinInt + 1}
	return slices.DeleteFunc(l, func(i int) bool { return i >= 0 && i < n })
}

// check holds a tree against the words, number by number.
func check(t *testing.T, name string, x *trie.Trie, texts []string) {
	t.Helper()
	m := modelOf(texts)
	if x.Nodes() != len(m.nodes) {
		t.Errorf("%s: %d nodes, not %d", name, x.Nodes(), len(m.nodes))
	}
	for node, path := range m.nodes {
		if got, want := asks(x, node), m.tells(node); got != want {
			t.Errorf("%s: node %d tells %v, not %v", name, node, got, want)
		}
		if steps(x, node) != m.steps(node) {
			t.Errorf("%s: steps from node %d", name, node)
		}
		if got := x.Find([]byte(path)); got != node {
			t.Errorf("%s: Find(%.60q) is %d, not %d", name, path, got, node)
		}
	}
	for _, node := range others(len(m.nodes)) {
		if got := asks(x, node); got != nothing() || steps(x, node) != nowhere() {
			t.Errorf("%s: %d is no node, but tells %v, or leads on", name, node, got)
		}
	}
	finds(t, name, x, m)
}

// finds holds Find against the words, of what is a byte longer than a beginning, a byte shorter at its front, or a byte other at its end.
func finds(t *testing.T, name string, x *trie.Trie, m model) {
	t.Helper()
	for _, path := range m.nodes {
		asked := []string{path + "\x00", path + "a", path + "\xff", path + path, path + "\n" + path, "\x00" + path, "a" + path}
		if n := len(path); n > 0 {
			asked = append(asked, path[1:], path[:n-1]+string([]byte{path[n-1] ^ 1}), path[:n-1]+string([]byte{path[n-1] ^ 0x80}))
		}
		for _, b := range asked {
			if got, want := x.Find([]byte(b)), m.find(b); got != want {
				t.Errorf("%s: Find(%.60q) is %d, not %d", name, b, got, want)
			}
		}
	}
}

// everyByte is each byte once.
func everyByte() string {
	var b []byte
	for c := range 256 {
		b = append(b, byte(c))
	}
	return string(b)
}

// singles are the texts of one byte, from the last byte to the first.
func singles() []string {
	var l []string
	for c := 255; c >= 0; c-- {
		l = append(l, string([]byte{byte(c)}))
	}
	return l
}

// short are all lists of at most 4 texts of at most 2 bytes, of two bytes.
func short() [][]string {
	texts := []string{"", "a", "\xff", "aa", "a\xff", "\xffa", "\xff\xff"}
	all := [][]string{nil}
	longest := all
	for range 4 {
		var longer [][]string
		for _, l := range longest {
			for _, text := range texts {
				longer = append(longer, append(slices.Clone(l), text))
			}
		}
		all = append(all, longer...)
		longest = longer
	}
	return all
}

// long are ordinary lists, and edges that the short ones don't have.
func long() [][]string {
	var many []string
	for i := range 300 {
		many = append(many, fmt.Sprintf("%x", i*37%256))
	}
	return [][]string{
		{"ab", "a", "b"},
		{"abc", "b", "abd", "b", ""},
		{"he", "she", "his", "hers"},
		{"the Seine", "the Marne", "The Seine", "the", "the Seine\n", "\n", ""},
		{"\x00", "\x00\x00", "\x00\xff", "\xff", "\xff\x00", "\xff\xff", "\x00\x00\x00"},
		{"\x00\x00\x00", "\xff\xff\xff", "\x00\x00", "", "\x00"},
		{"\xc3\x84", "\xc3\xa4", "\u212a", "\u0130", "\xc3", "\x80", "\xe2\x84"},
		{"z", "\x80", "\x7f", "\xff", "\x01", "A", "a", "\x00", "zz", "z\xff", "z\x00", "zA"},
		{everyByte()},
		{everyByte(), everyByte(), everyByte()[1:], everyByte()[:128]},
		singles(),
		append(singles(), singles()...),
		many,
		{strings.Repeat("a", 300), strings.Repeat("a", 301), strings.Repeat("a", 299) + "b", "a"},
	}
}

// lists are all of them.
func lists() [][]string { return append(short(), long()...) }

func TestTreeIsTheWords(t *testing.T) {
	for _, l := range lists() {
		check(t, fmt.Sprintf("Build(%.60q)", l), build(l...), l)
	}
}

// P6.1

func TestNodes(t *testing.T) {
	for _, x := range []struct {
		texts []string
		want  int
	}{
		{nil, 1},
		{[]string{""}, 1},
		{[]string{"", "", ""}, 1},
		{[]string{"a"}, 2},
		{[]string{"a", "a", "a"}, 2},
		{[]string{"", "a", ""}, 2},
		{[]string{"abc"}, 4},
		{[]string{"abc", "ab", "a"}, 4},
		{[]string{"a", "ab", "abc"}, 4},
		{[]string{"abc", "b", "c"}, 6},
		{[]string{"abc", "b", "abd", "b", ""}, 6},
		{[]string{"aaa", "aa"}, 4},
		{[]string{"\x00", "\x00\x00", "\xff"}, 4},
		{[]string{"a", "A"}, 3},
		{[]string{"a\nb", "a"}, 4},
		{[]string{everyByte()}, 257},
		{singles(), 257},
		{[]string{strings.Repeat("ab", 50000), strings.Repeat("ab", 49999)}, 100001},
	} {
		if got := build(x.texts...).Nodes(); got != x.want {
			t.Errorf("%.60q: %d nodes, not %d", x.texts, got, x.want)
		}
	}
}

func TestNoText(t *testing.T) {
	for name, x := range map[string]*trie.Trie{
		"Build()":                trie.Build(),
		"Build of no list":       trie.Build([][]byte(nil)...),
		"Build of an empty list": trie.Build([][]byte{}...),
	} {
		if x == nil {
			t.Fatalf("%s is nil", name)
		}
		check(t, name, x, nil)
		if x.Nodes() != 1 || x.Find(nil) != 0 || x.Find([]byte("a")) != -1 || asks(x, 0) != nothing() {
			t.Errorf("%s: %d nodes, the root tells %v", name, x.Nodes(), asks(x, 0))
		}
	}
}

func TestEmptyText(t *testing.T) {
	for _, x := range []struct {
		texts [][]byte
		nodes int
		word  int
	}{
		{[][]byte{nil}, 1, 0},
		{[][]byte{{}}, 1, 0},
		{[][]byte{nil, {}, nil}, 1, 0},
		{[][]byte{[]byte("a"), nil}, 2, 1},
		{[][]byte{{}, []byte("a")}, 2, 0},
		{[][]byte{[]byte("ab"), []byte("a"), {}, nil, {}}, 3, 2},
		{[][]byte{[]byte("ab"), []byte("a")}, 3, -1},
	} {
		tree := trie.Build(x.texts...)
		if tree.Nodes() != x.nodes || tree.Word(0) != x.word || tree.Find(nil) != 0 || tree.Find([]byte{}) != 0 {
			t.Errorf("%q: %d nodes, Word(0) is %d", x.texts, tree.Nodes(), tree.Word(0))
		}
	}
}

// The numbers come text by text, a text's from the shortest to the longest; those that are there already come not once more.
func TestNumbers(t *testing.T) {
	for _, x := range []struct {
		texts []string
		nodes []string
	}{
		{[]string{"ab", "a", "b"}, []string{"", "a", "ab", "b"}},
		{[]string{"b", "a", "ab"}, []string{"", "b", "a", "ab"}},
		{[]string{"abc", "b", "abd", "b", ""}, []string{"", "a", "ab", "abc", "b", "abd"}},
		{[]string{"", "ba", "", "ab"}, []string{"", "b", "ba", "a", "ab"}},
		{[]string{"ab", "ab", "abc", "ac", "ab", "abcd"}, []string{"", "a", "ab", "abc", "ac", "abcd"}},
		{[]string{"z", "y", "zy", "zx", "yx"}, []string{"", "z", "y", "zy", "zx", "yx"}},
		{[]string{"\xff", "\x00", "\x00\xff"}, []string{"", "\xff", "\x00", "\x00\xff"}},
		{[]string{"\xc3\xa4", "\xc3\x84"}, []string{"", "\xc3", "\xc3\xa4", "\xc3\x84"}},
	} {
		tree := build(x.texts...)
		if tree.Nodes() != len(x.nodes) {
			t.Errorf("%q: %d nodes, not %d", x.texts, tree.Nodes(), len(x.nodes))
		}
		for node, path := range x.nodes {
			if got := tree.Find([]byte(path)); got != node {
				t.Errorf("%q: Find(%q) is %d, not %d", x.texts, path, got, node)
			}
			if got := string(tree.Path(node)); got != path {
				t.Errorf("%q: Path(%d) is %q, not %q", x.texts, node, got, path)
			}
		}
	}
}

func TestFind(t *testing.T) {
	x := build("abc", "b", "abd", "b", "\x00\xff")
	for _, find := range []struct {
		b    string
		want int
	}{
		{"", 0}, {"a", 1}, {"ab", 2}, {"abc", 3}, {"b", 4}, {"abd", 5}, {"\x00", 6}, {"\x00\xff", 7},
		{"abcd", -1}, {"abcabc", -1}, {"abe", -1}, {"abb", -1}, {"ac", -1}, {"ba", -1}, {"bb", -1}, {"bc", -1},
		{"c", -1}, {"A", -1}, {"Ab", -1}, {"\xff", -1}, {"\xff\x00", -1}, {"\x00\x00", -1}, {"\x00a", -1},
		{"a\x00", -1}, {"\n", -1}, {" a", -1}, {"xab", -1}, {strings.Repeat("abc", 1000), -1},
	} {
		if got := x.Find([]byte(find.b)); got != find.want {
			t.Errorf("Find(%.60q) is %d, not %d", find.b, got, find.want)
		}
	}
	if got := x.Find(nil); got != 0 {
		t.Errorf("Find(nil) is %d", got)
	}
}

// How long a text is counts, not how much room there is behind it.
func TestTextsEndAtTheirLengths(t *testing.T) {
	room := []byte("abcdef")
	x := trie.Build(room[:2], room[3:4], room[:0])
	check(t, "parts of a text", x, []string{"ab", "d", ""})
	if x.Find(room[:2]) != 2 || x.Find(room[:3]) != -1 {
		t.Error(x.Find(room[:2]), x.Find(room[:3]))
	}
}

// P6.2

func TestOfEachNode(t *testing.T) {
	x := build("abd", "b", "abc", "b", "a", "abcd\x00", "ab\xff")
	for node, want := range []told{
		{"", 0, -1, -1, "ab"},
		{"a", 1, 0, 4, "b"},
		{"ab", 2, 1, -1, "cd\xff"},
		{"abd", 3, 2, 0, ""},
		{"b", 1, 0, 1, ""},
		{"abc", 3, 2, 2, "d"},
		{"abcd", 4, 5, -1, "\x00"},
		{"abcd\x00", 5, 6, 5, ""},
		{"ab\xff", 3, 2, 6, ""},
	} {
		if got := asks(x, node); got != want {
			t.Errorf("node %d tells %v, not %v", node, got, want)
		}
	}
	if x.Nodes() != 9 {
		t.Errorf("%d nodes", x.Nodes())
	}
}

// The least place is told of a text that is there several times, wherever its node came from.
func TestWordIsTheLeastPlace(t *testing.T) {
	for _, x := range []struct {
		texts []string
		asked string
		want  int
	}{
		{[]string{"a"}, "a", 0},
		{[]string{"a", "a"}, "a", 0},
		{[]string{"b", "a", "a", "b", "a"}, "a", 1},
		{[]string{"b", "a", "a", "b", "a"}, "b", 0},
		{[]string{"ab", "a", "a"}, "a", 1},
		{[]string{"a", "ab", "a"}, "a", 0},
		{[]string{"a", "ab", "a"}, "ab", 1},
		{[]string{"abc", "abc", "ab"}, "ab", 2},
		{[]string{"abc", "abc", "ab"}, "a", -1},
		{[]string{"", "a", ""}, "", 0},
		{[]string{"a", "", ""}, "", 1},
		{[]string{"a", "b"}, "", -1},
		{[]string{"\x00", "\xff", "\x00"}, "\xff", 1},
	} {
		tree := build(x.texts...)
		if got := tree.Word(tree.Find([]byte(x.asked))); got != x.want {
			t.Errorf("%q: Word of %q is %d, not %d", x.texts, x.asked, got, x.want)
		}
	}
}

// Kids come in order, whatever order the texts came in, and each once.
func TestKidsRise(t *testing.T) {
	for _, x := range []struct {
		texts []string
		want  string
	}{
		{nil, ""},
		{[]string{"b", "a", "c"}, "abc"},
		{[]string{"b", "a", "ba", "bb", "ab", "b"}, "ab"},
		{[]string{"\xff", "\x80", "\x7f", "\x00", "\x01"}, "\x00\x01\x7f\x80\xff"},
		{[]string{"a", "A", "\n", "_", "0"}, "\n0A_a"},
		{singles(), everyByte()},
	} {
		tree := build(x.texts...)
		for range 5 {
			if got := string(tree.Kids(0)); got != x.want {
				t.Errorf("%.60q: Kids(0) is %.60q, not %.60q", x.texts, got, x.want)
			}
		}
	}
	var behind []string
	for _, c := range singles() {
		behind = append(behind, "x\x00"+c)
	}
	if got := string(build(behind...).Kids(2)); got != everyByte() {
		t.Errorf("Kids(2) is %q", got)
	}
}

func TestStepByEachByte(t *testing.T) {
	x := build("ab", "a\x00", "\xffb", "a\xff")
	want := map[int]map[byte]int{
		0: {'a': 1, 0xff: 4},
		1: {'b': 2, 0: 3, 0xff: 6},
		4: {'b': 5},
	}
	for node := range 7 {
		l := nowhere()
		for c, to := range want[node] {
			l[c] = to
		}
		if got := steps(x, node); got != l {
			t.Errorf("steps from %d: %v, not %v", node, got, l)
		}
	}
}

func TestNoNode(t *testing.T) {
	for _, l := range long() {
		x := build(l...)
		for _, node := range others(x.Nodes()) {
			if got := asks(x, node); got != nothing() {
				t.Errorf("%.60q: %d tells %v", l, node, got)
			}
			if steps(x, node) != nowhere() {
				t.Errorf("%.60q: %d leads on", l, node)
			}
		}
	}
}

// P6.3

func TestPathsAreFound(t *testing.T) {
	for _, l := range lists() {
		x := build(l...)
		for node := range x.Nodes() {
			path := x.Path(node)
			if got := x.Find(path); got != node || len(path) != x.Depth(node) {
				t.Errorf("%.60q: Path(%d) is %.60q, found as %d, of depth %d", l, node, path, got, x.Depth(node))
			}
		}
	}
}

func TestParentsAreLower(t *testing.T) {
	for _, l := range lists() {
		x := build(l...)
		for node := range x.Nodes() {
			parent := x.Parent(node)
			if parent >= node || parent < -1 || (parent == -1) != (node == 0) {
				t.Errorf("%.60q: Parent(%d) is %d", l, node, parent)
			}
			if node == 0 {
				continue
			}
			path := x.Path(node)
			if x.Depth(parent) != x.Depth(node)-1 || x.Step(parent, path[len(path)-1]) != node {
				t.Errorf("%.60q: the parent of %d, %d, doesn't lead to it", l, node, parent)
			}
		}
	}
}

func TestNilTrie(t *testing.T) {
	var x *trie.Trie
	if x.Nodes() != 0 {
		t.Errorf("%d nodes", x.Nodes())
	}
	for _, node := range append(others(3), 0, 1, 2) {
		if got := asks(x, node); got != nothing() || steps(x, node) != nowhere() {
			t.Errorf("%d tells %v, or leads on", node, got)
		}
	}
	for _, b := range [][]byte{nil, {}, {0}, []byte("a"), []byte("abc"), []byte(everyByte())} {
		if got := x.Find(b); got != -1 {
			t.Errorf("Find(%q) is %d", b, got)
		}
	}
}

// A text may be long; its last node has the highest number, and all of its bytes.
func TestLongText(t *testing.T) {
	text := strings.Repeat("\x00seine\xff", 20000)
	x := build(text, text[:len(text)-1])
	n := len(text)
	if x.Nodes() != n+1 || x.Find([]byte(text)) != n || x.Depth(n) != n || x.Parent(n) != n-1 {
		t.Error(x.Nodes(), x.Find([]byte(text)), x.Depth(n), x.Parent(n))
	}
	if string(x.Path(n)) != text || x.Word(n) != 0 || x.Word(n-1) != 1 || x.Word(n-2) != -1 {
		t.Error(x.Word(n), x.Word(n-1), x.Word(n-2))
	}
}

// DOC.md, rules 3 and 4

// withRoom is a text with bytes behind it, where there is room; they aren't the function's to change either.
func withRoom(text string) (room, part []byte) {
	room = []byte(text + "Tail of it")
	return room, room[:len(text)]
}

func TestNothingHandedInIsChanged(t *testing.T) {
	for _, l := range long() {
		var rooms, parts [][]byte
		for _, text := range l {
			room, part := withRoom(text)
			rooms, parts = append(rooms, room), append(parts, part)
		}
		ahead := fmt.Sprintf("%q", rooms)
		x := trie.Build(parts...)
		for _, part := range parts {
			x.Find(part)
		}
		x.Path(x.Nodes() - 1)
		x.Kids(0)
		if got := fmt.Sprintf("%q", rooms); got != ahead {
			t.Errorf("%.60q was changed to %.60q", ahead, got)
		}
	}
}

func TestBuildChangesNoList(t *testing.T) {
	room := [][]byte{[]byte("b"), nil, []byte("b"), []byte("ab"), []byte("behind")}
	trie.Build(room[:4]...)
	if got := fmt.Sprintf("%q", room); got != `["b" "" "b" "ab" "behind"]` {
		t.Error(got)
	}
}

// spoil changes all bytes of a text, and those behind it where there is room.
func spoil(b []byte) {
	b = b[:cap(b)]
	for i := range b {
		b[i] ^= 0x5a
	}
}

// Texts are spoiled, and others put in their places, behind Build's back.
func TestBuildKeepsNothing(t *testing.T) {
	for _, l := range long() {
		own := asBytes(l)
		x := trie.Build(own...)
		for i := range own {
			spoil(own[i])
			own[i] = []byte("other")
		}
		check(t, fmt.Sprintf("Build(%.60q), spoiled", l), x, l)
	}
}

// One text's memory, handed in as several: it is changed for neither the first nor the last.
func TestTextsThatShareMemory(t *testing.T) {
	room := []byte("aabab")
	x := trie.Build(room[:3], room[2:], room[1:4], room, room[:0])
	spoil(room)
	check(t, "texts of one memory", x, []string{"aab", "bab", "aba", "aabab", ""})
}

func TestFindKeepsNothing(t *testing.T) {
	x := build("ab", "b")
	for _, text := range []string{"ab", "b", "abc", "x"} {
		own := []byte(text)
		x.Find(own)
		spoil(own)
	}
	check(t, "asked", x, []string{"ab", "b"})
}

// Whoever changes what Path or Kids answered, or puts bytes behind it, changes neither the tree nor another answer.
func TestAnswersAreNewMemory(t *testing.T) {
	for _, l := range long() {
		x := build(l...)
		for node := range x.Nodes() {
			path, kids := x.Path(node), x.Kids(node)
			otherPath, otherKids := x.Path(node), x.Kids(node)
			ahead := fmt.Sprintf("%q %q", otherPath, otherKids)
			for _, b := range [][]byte{path, kids} {
				_ = append(b, "more"...)
				spoil(b)
			}
			if got := fmt.Sprintf("%q %q", otherPath, otherKids); got != ahead {
				t.Fatalf("%.60q, node %d: answers share memory", l, node)
			}
		}
		check(t, fmt.Sprintf("Build(%.60q), its answers spoiled", l), x, l)
	}
}

// Neither a tree that is made later nor one that is made of the same texts plays a part in another.
func TestTreesAreAlone(t *testing.T) {
	l := asBytes([]string{"ab", "a", "b"})
	a := trie.Build(l...)
	b := trie.Build(l[1:]...)
	c := build("x", "ab")
	check(t, "a", a, []string{"ab", "a", "b"})
	check(t, "b", b, []string{"a", "b"})
	check(t, "c", c, []string{"x", "ab"})
	check(t, "one without texts", trie.Build(), nil)
}

// To ask for what isn't there makes no node of it.
func TestAskingChangesNothing(t *testing.T) {
	l := []string{"ab", "a", "b"}
	x := build(l...)
	for range 3 {
		for _, b := range []string{"abc", "x", "ba", ""} {
			x.Find([]byte(b))
		}
		for _, node := range append(others(4), 0, 1, 2, 3) {
			asks(x, node)
			steps(x, node)
		}
		check(t, "asked", x, l)
	}
}

func TestSameTextsHaveTheSameAnswers(t *testing.T) {
	for _, l := range long() {
		a, b := build(l...), build(l...)
		if a.Nodes() != b.Nodes() {
			t.Fatalf("%.60q: %d and %d nodes", l, a.Nodes(), b.Nodes())
		}
		for node := range a.Nodes() {
			if asks(a, node) != asks(b, node) || !bytes.Equal(a.Path(node), b.Path(node)) {
				t.Errorf("%.60q: node %d", l, node)
			}
		}
	}
}
