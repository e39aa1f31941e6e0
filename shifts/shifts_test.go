package shifts_test

import (
	"fmt"
	"math"
	"slices"
	"strings"
	"testing"

	"seine/back"
	"seine/shifts"
	"seine/trie"
)

// asBytes is strings as texts, each in memory of its own.
func asBytes(l []string) [][]byte {
	var b [][]byte
	for _, text := range l {
		b = append(b, []byte(text))
	}
	return b
}

// tree is back.Build, of strings.
func tree(l ...string) *back.Back { return back.Build(asBytes(l)...) }

// build is Build, of the tree of strings.
func build(l ...string) *shifts.Shifts { return shifts.Build(tree(l...)) }

// model is the words: the ends of the texts, in the order of their nodes' numbers.
type model struct {
	texts []string
	ends  []string
	whole map[string]bool
	least int
	near  [256]int
}

// modelOf numbers the texts' ends as chapters 6 and 14 do, without a tree.
func modelOf(l []string) model {
	m := model{ends: []string{""}, whole: map[string]bool{}}
	there := map[string]bool{"": true}
	for _, text := range l {
		if text == "" {
			continue
		}
		m.texts = append(m.texts, text)
		m.whole[text] = true
		if m.least == 0 || len(text) < m.least {
			m.least = len(text)
		}
		for k := 1; k <= len(text); k++ {
			end := text[len(text)-k:]
			if !there[end] {
				there[end] = true
				m.ends = append(m.ends, end)
			}
			if c := end[0]; m.near[c] == 0 || k < m.near[c] {
				m.near[c] = k
			}
		}
	}
	return m
}

// goesOn tells whether an end begins with another one, and has more bytes.
func goesOn(w, v string) bool { return len(w) > len(v) && strings.HasPrefix(w, v) }

// first is P15.1, node by node.
func (m model) first(v string) int {
	least := m.least
	for _, w := range m.ends {
		if goesOn(w, v) {
			least = min(least, len(w)-len(v))
		}
	}
	return least
}

// second is P15.1, each node on the way by each whole one.
func (m model) second(v string) int {
	least := m.least
	for i := range len(v) + 1 {
		u := v[i:]
		for w := range m.whole {
			if goesOn(w, u) {
				least = min(least, len(w)-len(u))
			}
		}
	}
	return least
}

// far is P15.2, of a node's first, second and depth.
func (m model) far(first, second, depth int, c byte) int {
	if m.least == 0 {
		return 0
	}
	k := m.least + 1
	if m.near[c] > 0 && m.near[c] < k {
		k = m.near[c]
	}
	return min(second, max(first, k-depth-1))
}

// others are numbers that are no nodes, where there are n of them.
func others(n int) []int {
	l := []int{-1, -2, -3, -n, -n - 1, n, n + 1, n + 2, 2*n + 1, 1 << 31, 1 << 32, 1<<32 + 1, math.MaxInt - 1, math.MaxInt, math.MinInt, math.MinInt + 1}
	return slices.DeleteFunc(l, func(i int) bool { return i >= 0 && i < n })
}

// check holds all that is answered of some texts against the words: each node, and each byte. The first fault ends it, as one often makes a great many.
func check(t *testing.T, name string, s *shifts.Shifts, l []string) {
	t.Helper()
	m := modelOf(l)
	for node, end := range m.ends {
		first, second := m.first(end), m.second(end)
		if got := s.First(node); got != first {
			t.Fatalf("%s: First(%d), of %.60q, is %d, not %d", name, node, end, got, first)
		}
		if got := s.Second(node); got != second {
			t.Fatalf("%s: Second(%d), of %.60q, is %d, not %d", name, node, end, got, second)
		}
		for c := range 256 {
			if got, want := s.Far(node, byte(c)), m.far(first, second, len(end), byte(c)); got != want {
				t.Fatalf("%s: Far(%d, %d), of %.60q, is %d, not %d", name, node, c, end, got, want)
			}
		}
	}
	nothing(t, name, s, others(len(m.ends)))
}

// nothing holds what is told of numbers against 0.
func nothing(t *testing.T, name string, s *shifts.Shifts, nodes []int) {
	t.Helper()
	for _, node := range nodes {
		if s.First(node) != 0 || s.Second(node) != 0 {
			t.Fatalf("%s: of %d First is %d, and Second %d", name, node, s.First(node), s.Second(node))
		}
		for c := range 256 {
			if got := s.Far(node, byte(c)); got != 0 {
				t.Fatalf("%s: Far(%d, %d) is %d", name, node, c, got)
			}
		}
	}
}

// textsUpTo are all texts of 1 to n bytes, of some bytes.
func textsUpTo(some string, n int) []string {
	var all []string
	last := []string{""}
	for range n {
		var next []string
		for _, text := range last {
			for i := range len(some) {
				next = append(next, text+some[i:i+1])
			}
		}
		all, last = append(all, next...), next
	}
	return all
}

// setsOf are all sets of at most n of some texts, in their order.
func setsOf(texts []string, n int) [][]string {
	all := [][]string{nil}
	for i, text := range texts {
		if n > 0 {
			for _, rest := range setsOf(texts[i+1:], n-1) {
				all = append(all, append([]string{text}, rest...))
			}
		}
	}
	return all
}

// short are all sets of short texts of two bytes: few of them that are longer, more that are shorter.
func short() [][]string {
	return slices.Concat(
		setsOf(textsUpTo("ab", 2), 6),
		setsOf(textsUpTo("ba", 3), 4),
		setsOf(textsUpTo("\x00\xff", 5), 2),
		setsOf(textsUpTo("ab", 8), 1),
	)
}

// everyByte is each byte once, rising.
func everyByte() string {
	var b []byte
	for c := range 256 {
		b = append(b, byte(c))
	}
	return string(b)
}

// repeats are n texts of one byte, each an end of the next.
func repeats(c string, n int) []string {
	var l []string
	for i := range n {
		l = append(l, strings.Repeat(c, i+1))
	}
	return l
}

// reversed is a list from its last text to its first.
func reversed(l []string) []string {
	l = slices.Clone(l)
	slices.Reverse(l)
	return l
}

// long are ordinary lists, and edges that the short ones don't have.
func long() [][]string {
	return [][]string{
		{""},
		{"", "", ""},
		{"a"},
		{"", "a", ""},
		{"cab", "b"},
		{"abc", "bc"},
		{"abab"},
		{"he", "she", "his", "hers"},
		{"hers", "", "his", "she", "he", "she"},
		{"ab", "cab", "b", "dcab", ""},
		{"abcde", "dexyz"},
		{"abcde", "dexyz", "cdx", "ey"},
		{"abcabcab", "cabcab", "bcabca", "abcabc"},
		{"abacabadabacaba", "bacab", "acabad", "cabadab"},
		{"the Seine", "the Marne", "The Seine", "the Oise", "Seine, the", "\nSeine\n", ""},
		{"\x00", "\x00\x00", "\x00\xff", "\xff", "\xff\x00", "\xff\xff", "\x00\x00\x00"},
		{"\x00\x00\x00\xff", "\xff\xff\xff", "\x00\xff\x00", "", "\x80\x7f\x80"},
		{"\xc3\x84\xc3\xa4", "\xc3\xa4\xc3\x84", "\u212a\u0130", "\xa4\xc3\x84x", "\xe2\x84\xaa\xc4"},
		{"zz\x80", "\x80\x7fz", "\xff\x01\x00", "Aaz", "aAz", "z\xffz", "z\x00z\x80"},
		{everyByte()},
		{everyByte(), everyByte()[:128], everyByte()[100:], "\xff\x00\x01\x02"},
		repeats("a", 12),
		reversed(repeats("\x00", 12)),
		repeats("\xff", 12)[5:],
		{strings.Repeat("a", 60), "b" + strings.Repeat("a", 40), strings.Repeat("a", 30) + "b"},
		{strings.Repeat("ab", 20), strings.Repeat("ba", 21), strings.Repeat("ab", 7)},
	}
}

// lists are all of them.
func lists() [][]string { return append(short(), long()...) }

func TestShiftsAreTheWords(t *testing.T) {
	for _, l := range lists() {
		check(t, fmt.Sprintf("shifts of %.60q", l), build(l...), l)
	}
}

// In which order texts come, and how often, changes the nodes' numbers alone.
func TestOrderOfTextsPlaysNoPart(t *testing.T) {
	for _, l := range long() {
		turned := append(reversed(l), l...)
		check(t, fmt.Sprintf("shifts of %.60q", turned), build(turned...), turned)
	}
}

// P15.1

// moves are what is told of the node of an end, worked out by hand.
type moves struct {
	end           string
	first, second int
}

func TestFirstAndSecond(t *testing.T) {
	for _, x := range []struct {
		name  string
		texts []string
		want  []moves
	}{
		{"one byte", []string{"a"}, []moves{{"", 1, 1}, {"a", 1, 1}}},
		{"the byte 0", []string{"\x00"}, []moves{{"", 1, 1}, {"\x00", 1, 1}}},
		{"the chapter's first example", []string{"cab", "b"}, []moves{{"", 1, 1}, {"b", 1, 1}, {"ab", 1, 1}, {"cab", 1, 1}}},
		{"the chapter's second example", []string{"abc", "bc"}, []moves{{"", 1, 2}, {"c", 2, 2}, {"bc", 2, 2}, {"abc", 2, 2}}},
		{"an end, ahead of what it ends", []string{"bc", "abc"}, []moves{{"", 1, 2}, {"c", 2, 2}, {"bc", 2, 2}, {"abc", 2, 2}}},
		{"nothing comes again", []string{"abcd"}, []moves{{"", 1, 4}, {"d", 4, 4}, {"cd", 4, 4}, {"bcd", 4, 4}, {"abcd", 4, 4}}},
		{"one byte many times", []string{"aaaa"}, []moves{{"", 1, 4}, {"a", 1, 3}, {"aa", 1, 2}, {"aaa", 1, 1}, {"aaaa", 4, 1}}},
		{"two bytes by turns", []string{"abab"}, []moves{{"", 1, 4}, {"b", 2, 4}, {"ab", 2, 2}, {"bab", 4, 2}, {"abab", 4, 2}}},
		{"two bytes by turns, an odd number", []string{"ababa"}, []moves{{"", 1, 5}, {"a", 2, 4}, {"ba", 2, 4}, {"aba", 2, 2}, {"baba", 5, 2}, {"ababa", 5, 2}}},
		{"0 and 255 by turns", []string{"\x00\xff\x00\xff"}, []moves{{"", 1, 4}, {"\xff", 2, 4}, {"\x00\xff", 2, 2}, {"\xff\x00\xff", 4, 2}}},
		{"a text twice", []string{"aab", "aab"}, []moves{{"", 1, 3}, {"b", 3, 3}, {"ab", 3, 3}, {"aab", 3, 3}}},
		{"a front that is an end", []string{"aba"}, []moves{{"", 1, 3}, {"a", 2, 2}, {"ba", 3, 2}, {"aba", 3, 2}}},
		{"an empty text among others", []string{"", "aba", ""}, []moves{{"", 1, 3}, {"a", 2, 2}, {"ba", 3, 2}, {"aba", 3, 2}}},
		// A node that is gone on, but not by a whole one, has no second of its own.
		{"a text within, not at the end", []string{"abcd", "bc"}, []moves{
			{"", 1, 2}, {"d", 2, 2}, {"cd", 2, 2}, {"bcd", 2, 2}, {"abcd", 2, 2}, {"c", 1, 2}, {"bc", 1, 2}}},
		{"an end of several", []string{"xxbca", "yybca", "bca"}, []moves{
			{"", 1, 3}, {"a", 3, 3}, {"ca", 3, 3}, {"bca", 3, 3}, {"xxbca", 3, 3}, {"yybca", 3, 3}}},
		// Behind de what is whole is 3 ahead: what ends in de has it on its way, what is shorter hasn't.
		{"what stands on the way", []string{"abcde", "dexyz"}, []moves{
			{"", 1, 5}, {"e", 3, 5}, {"de", 3, 3}, {"cde", 5, 3}, {"bcde", 5, 3}, {"abcde", 5, 3},
			{"z", 5, 5}, {"yz", 5, 5}, {"xyz", 5, 5}, {"exyz", 5, 5}, {"dexyz", 5, 5}}},
		{"the lesser one of two on the way", []string{"abcde", "cdexy", "exyzu"}, []moves{
			{"", 1, 5}, {"e", 2, 4}, {"de", 2, 4}, {"cde", 2, 2}, {"abcde", 5, 2},
			{"y", 2, 5}, {"xy", 2, 5}, {"exy", 2, 2}, {"dexy", 5, 2}, {"cdexy", 5, 2}}},
		// What is whole is 3 ahead of bc, and 1 of abc, which is farther down the way.
		{"a nearer one farther down the way", []string{"xabc", "abcd", "bcyzu"}, []moves{
			{"", 1, 4}, {"c", 1, 4}, {"bc", 1, 3}, {"abc", 1, 1}, {"xabc", 4, 1}}},
		// What is whole is 4 ahead of c, and 6 of abc: the way to abc has the lesser one on it.
		{"a nearer one nearer to the root", []string{"yxabc", "abcuvwdeg", "cpqrs"}, []moves{
			{"", 1, 5}, {"c", 4, 4}, {"bc", 5, 4}, {"abc", 5, 4}, {"xabc", 5, 4}, {"yxabc", 5, 4}}},
		// Whole ones are ahead of the root, too, but by the shortest text's bytes at the least.
		{"the shortest text in the middle", []string{"aaaaa", "bb", "cccc"}, []moves{
			{"", 1, 2}, {"a", 1, 2}, {"aaa", 1, 2}, {"aaaa", 1, 1}, {"aaaaa", 2, 1}, {"b", 1, 1}, {"bb", 2, 1}, {"c", 1, 2}, {"ccc", 1, 1}, {"cccc", 2, 1}}},
		{"the shortest text last", []string{"abcab", "xab"}, []moves{
			{"", 1, 3}, {"b", 3, 3}, {"ab", 3, 3}, {"cab", 3, 3}, {"abcab", 3, 3}, {"xab", 3, 3}}},
		{"the shortest text first", []string{"cab", "abxabyz"}, []moves{
			{"", 1, 3}, {"b", 2, 3}, {"ab", 2, 3}, {"cab", 3, 3}, {"z", 3, 3}, {"abyz", 3, 3}, {"xabyz", 3, 3}}},
		// Several fall to ab; the one that is nearest ahead is neither the first nor the last.
		{"several that go on one", []string{"qab", "abcdef", "abg", "abhi"}, []moves{{"", 1, 3}, {"b", 1, 3}, {"ab", 1, 1}, {"qab", 3, 1}}},
		{"beyond 127", []string{"\x80\x7f\x80"}, []moves{{"", 1, 3}, {"\x80", 2, 2}, {"\x7f\x80", 3, 2}, {"\x80\x7f\x80", 3, 2}}},
	} {
		b := tree(x.texts...)
		s := shifts.Build(b)
		for _, want := range x.want {
			node := b.Find(back.Turn([]byte(want.end)))
			if got := (moves{want.end, s.First(node), s.Second(node)}); node < 0 || got != want {
				t.Errorf("%s: node %d tells %#v, not %#v", x.name, node, got, want)
			}
		}
	}
}

// P15.2

func TestFar(t *testing.T) {
	one := []string{"abcde", "dexyz"}
	for _, x := range []struct {
		name  string
		texts []string
		end   string
		c     byte
		want  int
	}{
		{"one byte, of the root", []string{"a"}, "", 'x', 1},
		{"one byte, and that byte", []string{"a"}, "", 'a', 1},
		{"one byte, of its node", []string{"a"}, "a", 'x', 1},
		{"the chapter's example", []string{"abc", "bc"}, "", 'x', 2},
		{"a byte that would have fitted", []string{"abc", "bc"}, "", 'c', 1},
		{"a byte that would have fitted next", []string{"abc", "bc"}, "", 'b', 1},
		{"nearest where the shortest text ends, and one more", []string{"abc", "bc"}, "", 'a', 2},
		{"nearest within the shortest text, at its front", []string{"bac", "bdca"}, "", 'b', 2},
		{"in no text, of the root", one, "", 'q', 5},
		{"at a front, of the root", one, "", 'a', 4},
		{"in the middle, of the root", one, "", 'c', 2},
		{"in two texts, nearer in the second one", one, "", 'd', 1},
		{"in two texts, nearer in the first one", one, "", 'e', 1},
		{"in no text, one byte down", one, "e", 'q', 4},
		{"the greater one is First", one, "e", 'c', 3},
		{"both are as great", one, "e", 'a', 3},
		{"the lesser one is Second", one, "cde", 'q', 3},
		{"both of three are as great", one, "de", 'q', 3},
		{"nearer than the node is deep", one, "bcde", 'e', 3},
		{"as near as the node is deep", one, "de", 'd', 3},
		{"a node that no other one goes on", one, "xyz", 'a', 5},
		{"of a whole one", one, "abcde", 'q', 3},
		{"nearer than the node is deep, by First", []string{"abab"}, "b", 'b', 2},
		{"farther than the node is deep, by First", []string{"abab"}, "b", 'a', 2},
		{"farther than the node is deep, by the byte", []string{"xaaa"}, "a", 'x', 2},
		{"deeper, by the byte as by First", []string{"xaaa"}, "aa", 'x', 1},
		{"in no text, by its distance", []string{"abab"}, "b", 'x', 3},
		{"in no text, by Second", []string{"aaaa"}, "aa", 'x', 2},
		{"in no text, by both", []string{"aaaa"}, "a", 'x', 3},
		{"farther than the shortest text has bytes", []string{"xyzab", "cab"}, "", 'x', 3},
		{"just as far as the shortest text has bytes", []string{"xyzab", "cab"}, "", 'z', 2},
		{"the shortest text in the middle", []string{"xyzuv", "ab", "cdefg"}, "", 'x', 2},
		{"the byte 0, in no text", []string{"abc"}, "", 0, 3},
		{"the byte 0, in a text", []string{"\x00abc"}, "", 0, 3},
		{"the byte 255, in no text", []string{"abc"}, "", 255, 3},
		{"the byte 255, in a text", []string{"a\xffbc"}, "", 255, 2},
		{"the byte 128, in a text", []string{"\x80a\x7f"}, "", 128, 2},
		{"the byte 127, in a text", []string{"\x80a\x7f"}, "", 127, 1},
		{"a large letter is another byte", []string{"abc"}, "", 'A', 3},
	} {
		b := tree(x.texts...)
		node := b.Find(back.Turn([]byte(x.end)))
		if got := shifts.Build(b).Far(node, x.c); node < 0 || got != x.want {
			t.Errorf("%s: Far(%d, %d) is %d, not %d", x.name, node, x.c, got, x.want)
		}
	}
}

func TestFarOfEachByte(t *testing.T) {
	s := build(everyByte())
	for c := range 256 {
		// No byte comes twice, so a text ends behind the root's window by as much as the byte stands ahead.
		if got := s.Far(0, byte(c)); got != max(255-c, 1) {
			t.Errorf("Far(0, %d) is %d", c, got)
		}
		if got := s.Far(1, byte(c)); got != 256 {
			t.Errorf("Far(1, %d) is %d", c, got)
		}
	}
}

func TestNoNode(t *testing.T) {
	for _, l := range long() {
		nothing(t, fmt.Sprintf("shifts of %.60q", l), build(l...), others(tree(l...).Nodes()))
	}
}

// The root is a node without texts, too, and nothing can be moved there.
func TestNoText(t *testing.T) {
	for name, b := range map[string]*back.Back{
		"no text":               back.Build(),
		"no list":               back.Build([][]byte(nil)...),
		"an empty list":         back.Build([][]byte{}...),
		"one nil text":          back.Build(nil),
		"one nil text, in list": back.Build([][]byte{nil}...),
		"an empty text":         back.Build([]byte{}),
		"several empty ones":    back.Build(nil, []byte{}, []byte("a")[:0]),
	} {
		s := shifts.Build(b)
		check(t, name, s, nil)
		nothing(t, name, s, append(others(3), 0, 1, 2))
	}
}

func TestNilShiftsAndShiftsOfNoTree(t *testing.T) {
	var none *shifts.Shifts
	for name, s := range map[string]*shifts.Shifts{
		"nil":                 none,
		"of a nil tree":       shifts.Build(nil),
		"of a Back of no one": shifts.Build(&back.Back{}),
	} {
		nothing(t, name, s, append(others(3), 0, 1, 2))
	}
}

// P15.3

func TestFirstAndSecondAreOneToLeast(t *testing.T) {
	for _, l := range lists() {
		b := tree(l...)
		if b.Least() == 0 {
			continue
		}
		s := shifts.Build(b)
		for node := range b.Nodes() {
			if first := s.First(node); first < 1 || first > b.Least() {
				t.Errorf("%.60q: First(%d) is %d", l, node, first)
			}
			if second := s.Second(node); second < 1 || second > b.Least() {
				t.Errorf("%.60q: Second(%d) is %d", l, node, second)
			}
			for c := range 256 {
				if far := s.Far(node, byte(c)); far < 1 || far > b.Least() {
					t.Errorf("%.60q: Far(%d, %d) is %d", l, node, c, far)
				}
			}
		}
	}
}

// fits is the node that is come to, back from a place of a line, and how many bytes lead there.
func fits(b *back.Back, line string, place int) (node, n int) {
	for n < place {
		next := b.Step(node, line[place-n-1])
		if next < 0 {
			break
		}
		node, n = next, n+1
	}
	return node, n
}

// nextEnd is the first place behind another one where a text ends in a line; -1: none does.
func nextEnd(texts []string, line string, place int) int {
	for end := place + 1; end <= len(line); end++ {
		for _, text := range texts {
			if strings.HasSuffix(line[:end], text) {
				return end
			}
		}
	}
	return -1
}

// holds goes back from each place of a line, and tells where a text ends nearer behind it than is told; nothing, if none does.
func holds(b *back.Back, s *shifts.Shifts, texts []string, line string) string {
	for place := range len(line) + 1 {
		end := nextEnd(texts, line, place)
		if end < 0 {
			break
		}
		node, n := fits(b, line, place)
		far := s.Second(node)
		if n < place {
			far = s.Far(node, line[place-n-1])
		}
		if end-place < far {
			return fmt.Sprintf("%d is told at the place %d of %q, but a text ends at %d", far, place, line, end)
		}
	}
	return ""
}

// holdsIn asks of some texts, and of all lines.
func holdsIn(t *testing.T, texts, lines []string) {
	t.Helper()
	b := tree(texts...)
	s := shifts.Build(b)
	for _, line := range lines {
		if told := holds(b, s, texts, line); told != "" {
			t.Errorf("%q: %s", texts, told)
			return
		}
	}
}

func TestNoTextEndsNearerThanIsTold(t *testing.T) {
	lines := textsUpTo("ab", 8)
	for _, texts := range slices.Concat(setsOf(textsUpTo("ab", 3), 3), setsOf(textsUpTo("ab", 4), 2), setsOf(textsUpTo("ab", 6), 1)) {
		holdsIn(t, texts, lines)
	}
}

// A byte that stands in no text, or in some alone, moves farther.
func TestNoTextEndsNearerWithMoreBytes(t *testing.T) {
	lines := textsUpTo("abx", 6)
	for _, texts := range append(setsOf(textsUpTo("ab", 3), 2), setsOf(textsUpTo("bx", 4), 1)...) {
		holdsIn(t, texts, lines)
	}
}

func TestNoTextEndsNearerInLongLines(t *testing.T) {
	for _, l := range long() {
		texts := slices.DeleteFunc(slices.Clone(l), func(text string) bool { return text == "" })
		lines := []string{strings.Join(texts, ""), strings.Join(reversed(texts), "x"), strings.Join(texts, "\x00")}
		for _, text := range texts {
			lines = append(lines, strings.Repeat(text, 2), text+text[:len(text)/2]+text, text[len(text)/2:]+text)
		}
		holdsIn(t, texts, lines)
	}
}

// Windows that are moved as is told come by each place where a text ends.
func TestEachTextIsComeBy(t *testing.T) {
	texts := []string{"seine", "ei", "nes", "neines"}
	line := "xseineseinesxneinesseisei"
	b := tree(texts...)
	s := shifts.Build(b)
	at := map[int]bool{}
	for place := b.Least(); place <= len(line); {
		at[place] = true
		node, n := fits(b, line, place)
		if n < place {
			place += s.Far(node, line[place-n-1])
		} else {
			place += s.Second(node)
		}
	}
	for place := range line {
		if end := nextEnd(texts, line, place); end >= 0 && !at[end] {
			t.Errorf("a text ends at %d, and no window does", end)
		}
	}
	if len(at) >= len(line) {
		t.Errorf("%d windows of a line of %d bytes", len(at), len(line))
	}
}

// Trees may be deep: what falls far is worked out in time, and nothing runs out of room.
func TestLongTexts(t *testing.T) {
	const n = 20000
	s := build(strings.Repeat("a", n))
	for _, node := range []int{0, 1, 2, n / 2, n - 1} {
		if s.First(node) != 1 || s.Second(node) != n-node || s.Far(node, 'x') != n-node || s.Far(node, 'a') != 1 {
			t.Errorf("of %d First is %d, Second %d", node, s.First(node), s.Second(node))
		}
	}
	if s.First(n) != n || s.Second(n) != 1 || s.Far(n, 'x') != 1 {
		t.Errorf("of the whole text First is %d, Second %d", s.First(n), s.Second(n))
	}
	s = build(strings.Repeat("ab", n/2)+"c", "x"+strings.Repeat("ba", n/2))
	if s.First(0) != 1 || s.Second(0) != n+1 || s.Far(0, 'x') != n || s.Far(0, 'y') != n+1 || s.Far(0, 'c') != 1 {
		t.Error(s.First(0), s.Second(0), s.Far(0, 'x'), s.Far(0, 'y'))
	}
}

// DOC.md, rules 3 and 4

// told is all that a tree tells, and all that shifts do.
func told(b *back.Back, s *shifts.Shifts) string {
	var l []string
	for node := range b.Nodes() {
		l = append(l, fmt.Sprintf("%q %d %d %v %q, %d %d", b.Path(node), b.Parent(node), b.Word(node), b.Whole(node), b.Kids(node), s.First(node), s.Second(node)))
	}
	for c := range 256 {
		l = append(l, fmt.Sprintf("%d %d", b.Near(byte(c)), s.Far(0, byte(c))))
	}
	return strings.Join(l, "\n")
}

func TestBuildChangesNoTree(t *testing.T) {
	for _, l := range long() {
		b := tree(l...)
		same := b.Trie
		s := shifts.Build(b)
		for node := range b.Nodes() {
			s.First(node)
			s.Second(node)
			s.Far(node, 'a')
		}
		other := tree(l...)
		if b.Trie != same || told(b, s) != told(other, shifts.Build(other)) {
			t.Errorf("%.60q: the tree was changed", l)
		}
	}
}

// Texts, and the trees themselves, are changed behind Build's back.
func TestBuildKeepsNothing(t *testing.T) {
	for _, l := range long() {
		own := asBytes(l)
		b := back.Build(own...)
		s := shifts.Build(b)
		for i := range own {
			for j := range own[i] {
				own[i][j] ^= 0x5a
			}
			own[i] = []byte("other")
		}
		check(t, fmt.Sprintf("shifts of %.60q, the texts spoiled", l), s, l)
		*b.Trie = *trie.Build([]byte("xyz"), []byte("z"))
		check(t, fmt.Sprintf("shifts of %.60q, the trie another one", l), s, l)
		b.Trie = trie.Build([]byte("zy"))
		check(t, fmt.Sprintf("shifts of %.60q, the tree another one", l), s, l)
		b.Trie = nil
		check(t, fmt.Sprintf("shifts of %.60q, no tree", l), s, l)
	}
}

// What a tree answered is the caller's to change, ahead of Build and behind it.
func TestAnswersOfTheTreeMayBeChanged(t *testing.T) {
	l := []string{"cab", "ab", "abcab"}
	b := tree(l...)
	spoil := func() {
		for node := range b.Nodes() {
			for _, bytes := range [][]byte{b.End(node), b.Path(node), b.Kids(node)} {
				for i := range bytes {
					bytes[i] = 'x'
				}
			}
		}
	}
	spoil()
	s := shifts.Build(b)
	spoil()
	check(t, "answers spoiled", s, l)
}

// Shifts of one tree, made twice, and of others, made between, play no part in one another.
func TestShiftsAreAlone(t *testing.T) {
	b := tree("abc", "bc")
	x := shifts.Build(b)
	y := build("aaaa")
	z := shifts.Build(b)
	check(t, "the first ones", x, []string{"abc", "bc"})
	check(t, "others", y, []string{"aaaa"})
	check(t, "the first ones again", z, []string{"abc", "bc"})
	check(t, "those without texts", build(), nil)
}

// What is asked plays no part in what is answered next.
func TestAskingChangesNothing(t *testing.T) {
	l := []string{"abcde", "dexyz"}
	s := build(l...)
	for range 3 {
		check(t, "asked", s, l)
	}
}
