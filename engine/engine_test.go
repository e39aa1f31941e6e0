package engine_test

import (
	"fmt"
	"math"
	"slices"
	"strings"
	"testing"

	"seine/api"
	"seine/dfa"
	"seine/engine"
	"seine/meter"
	"seine/pairs"
	"seine/patset"
	"seine/sparse"
)

// The head of the chapter: the calls with just their signatures, and numbers without a type.
var (
	_ func(int) bool                                        = engine.Is
	_ func(int, patset.Set) (*engine.Engine, api.Errno)     = engine.New
	_ func(*engine.Engine) int                              = (*engine.Engine).Tag
	_ func(*engine.Engine, *meter.Meter, []byte) []api.Pair = (*engine.Engine).Find
	_                                                       = [...]uint8{engine.Sparse, engine.Dense, engine.TwoWay, engine.Walter}
)

// ways are all that there are.
func ways() []int { return []int{engine.Sparse, engine.Dense, engine.TwoWay, engine.Walter} }

// wayName is what a fault tells of a way.
func wayName(tag int) string {
	if tag < 0 || tag > 3 {
		return fmt.Sprintf("the way %d", tag)
	}
	return []string{"sparse", "dense", "two ways", "from ends"}[tag]
}

// asBytes is strings as texts, each in memory of its own.
func asBytes(l []string) [][]byte {
	var b [][]byte
	for _, text := range l {
		b = append(b, []byte(text))
	}
	return b
}

// setOf is a set of strings.
func setOf(texts ...string) patset.Set { return patset.Of(asBytes(texts)...) }

// build is New, of strings for which that way is.
func build(t *testing.T, tag int, texts ...string) *engine.Engine {
	t.Helper()
	e, bad := engine.New(tag, setOf(texts...))
	if e == nil || bad != api.OK {
		t.Fatalf("%s, of %.60q: the error %d", wayName(tag), texts, bad)
	}
	return e
}

// list is pairs, each by its start and its end.
func list(numbers ...int) []api.Pair {
	var l []api.Pair
	for i := 0; i < len(numbers); i += 2 {
		l = append(l, api.Pair{Start: numbers[i], End: numbers[i+1]})
	}
	return l
}

// model is the words: which texts came, told by strings alone.
type model struct {
	came   map[string]bool
	some   [][]byte
	states int
}

// modelOf is that of some texts, whose states are their beginnings.
func modelOf(texts []string) model {
	m := model{came: map[string]bool{}}
	begin := map[string]bool{"": true}
	for _, text := range texts {
		if !m.came[text] && text != "" {
			m.some = append(m.some, []byte(text))
		}
		m.came[text] = true
		for n := range len(text) + 1 {
			begin[text[:n]] = true
		}
	}
	m.states = len(begin)
	return m
}

// bad is the error that a way has: P17.1.
func (m model) bad(tag int) api.Errno {
	switch {
	case tag < 0 || tag > 3:
		return api.BadEngine
	case tag == 2 && (len(m.some) != 1 || m.came[""]):
		return api.TwoWayMisuse
	case tag == 1 && m.states > 160:
		return api.DFAStates
	}
	return api.OK
}

// pieces are all pieces of a line that are patterns, empty ones too: P17.2.
func (m model) pieces(line string) []api.Pair {
	var l []api.Pair
	for start := range len(line) + 1 {
		for end := start; end <= len(line); end++ {
			if m.came[line[start:end]] {
				l = append(l, api.Pair{Start: start, End: end})
			}
		}
	}
	return l
}

// counter is a way's counts, by the layers below: P17.3.
type counter func(line string) meter.Counts

// counterOf is that of a way for some patterns.
func counterOf(tag int, some [][]byte) counter {
	scan := func(*meter.Meter, []byte) []api.Pair { return nil }
	switch {
	case len(some) == 0:
	case tag == 0:
		scan = sparse.New(some...).Scan
	case tag == 1:
		d, _ := dfa.New(some...)
		scan = d.Scan
	}
	return func(line string) meter.Counts {
		m := meter.New()
		scan(m, []byte(line))
		return m.Counts()
	}
}

// sum is what two counted together.
func sum(a, b meter.Counts) meter.Counts {
	return meter.Counts{Scan: a.Scan + b.Scan, Look: a.Look + b.Look, Hunt: a.Hunt + b.Hunt, Move: a.Move + b.Move}
}

// counted is a meter that counted something of each kind already.
func counted() *meter.Meter {
	m := meter.New()
	m.Text([]byte("ab")).At(1)
	m.Sparse().Look(0, 'a')
	m.Dense([256]int{}, 1, []int{0}).Look(0, 'a')
	m.Read([]byte("ab"), 0)
	m.Copy(make([]byte, 3), []byte("abc"))
	return m
}

// checkLines holds an engine against the words, line by line, with a meter that goes on counting, and without one. The first fault ends it.
func checkLines(t *testing.T, e *engine.Engine, tag int, texts, lines []string) {
	t.Helper()
	w := modelOf(texts)
	counts := counterOf(tag, w.some)
	m := counted()
	if got := e.Tag(); got != tag {
		t.Fatalf("%s, of %.60q: Tag is %d", wayName(tag), texts, got)
	}
	for _, line := range lines {
		want, after := w.pieces(line), sum(m.Counts(), counts(line))
		for _, by := range []*meter.Meter{m, nil} {
			if got := e.Find(by, []byte(line)); !slices.Equal(got, want) {
				t.Fatalf("%s, of %.60q, in %.80q: %v, not %v", wayName(tag), texts, line, got, want)
			}
		}
		if got := m.Counts(); got != after {
			t.Fatalf("%s, of %.60q, in %.80q: counted up to %v, not %v", wayName(tag), texts, line, got, after)
		}
	}
}

// check holds all ways for some texts against the words, in some lines: those that may not be, too.
func check(t *testing.T, texts, lines []string) {
	t.Helper()
	p, w := setOf(texts...), modelOf(texts)
	for _, tag := range append(ways(), -1, 4) {
		e, bad := engine.New(tag, p)
		if want := w.bad(tag); bad != want || (e == nil) != (want != api.OK) {
			t.Fatalf("%s, of %.60q: the error %d, not %d, and nil is %v", wayName(tag), texts, bad, want, e == nil)
		}
		if bad == api.OK {
			checkLines(t, e, tag, texts, lines)
		}
	}
}

// textsUpTo are all texts of 1 to n bytes, of some bytes.
func textsUpTo(some string, n int) []string {
	var all []string
	last := []string{""}
	for range n {
		var next []string
		for _, text := range last {
			for i := range len(some) {
				next = append(next, text+some[i:i+1])
			}
		}
		all, last = append(all, next...), next
	}
	return all
}

// linesUpTo are all lines of at most n bytes, of some bytes.
func linesUpTo(some string, n int) []string { return append([]string{""}, textsUpTo(some, n)...) }

// setsOf are all sets of at most n of some texts, in their order.
func setsOf(texts []string, n int) [][]string {
	all := [][]string{nil}
	for i, text := range texts {
		if n > 0 {
			for _, rest := range setsOf(texts[i+1:], n-1) {
				all = append(all, append([]string{text}, rest...))
			}
		}
	}
	return all
}

// everyByte is each byte once, rising.
func everyByte() string {
	var b []byte
	for c := range 256 {
		b = append(b, byte(c))
	}
	return string(b)
}

// singles are n texts of one byte each, from one byte on.
func singles(from, n int) []string {
	var l []string
	for i := range n {
		l = append(l, string([]byte{byte(from + i)}))
	}
	return l
}

// repeats are n texts of one byte, each an end of the next.
func repeats(c string, n int) []string {
	var l []string
	for i := range n {
		l = append(l, strings.Repeat(c, i+1))
	}
	return l
}

// reversed is a list from its last text to its first.
func reversed(l []string) []string {
	l = slices.Clone(l)
	slices.Reverse(l)
	return l
}

// long are ordinary lists, and edges that the short ones don't have.
func long() [][]string {
	return [][]string{
		nil,
		{""},
		{"", "", ""},
		{"a"},
		{"a", "a", "a"},
		{"a", ""},
		{"", "a", "", "a"},
		{"ab", ""},
		{"abab"},
		{"abacaba", "abacaba"},
		{"he", "she", "hers"},
		{"hers", "", "his", "she", "he", "she"},
		{"abcd", "bc"},
		{"abcdefgh", "bcdefg", "cdef", "de", "abc", "gh", "h"},
		{"abcabcab", "cabcab", "bcabca", "abcabc"},
		{"the Seine", "the Marne", "The Seine", "the Oise", "Seine, the", "\nSeine\n", ""},
		{"\x00"},
		{"\xff"},
		{"\x00", ""},
		{"\x80\xff\x80"},
		{"\x00", "\x00\x00", "\x00\xff", "\xff", "\xff\x00", "\xff\xff", "\x00\x00\x00"},
		{"\x00\x00\x00\xff", "\xff\xff\xff", "\x00\xff\x00", "", "\x80\x7f\x80"},
		{"\xc3\x84\xc3\xa4", "\xc3\xa4\xc3\x84", "\u212a\u0130", "\xa4\xc3\x84x", "\xe2\x84\xaa\xc4"},
		{everyByte()},
		{everyByte(), everyByte()[:128], everyByte()[100:], "\xff\x00\x01\x02", ""},
		singles(0, 256),
		append(singles(100, 156), ""),
		repeats("a", 12),
		append(reversed(repeats("\x00", 12)), ""),
		{strings.Repeat("a", 60), "b" + strings.Repeat("a", 40), strings.Repeat("a", 30) + "b"},
		{strings.Repeat("ab", 20), strings.Repeat("ba", 21), strings.Repeat("ab", 7)},
	}
}

// joined is texts one behind the other, cut off where that is too long to be held against each piece.
func joined(texts []string, between string) string {
	all := strings.Join(texts, between)
	return all[:min(len(all), 700)]
}

// linesFor are lines for a list: its texts, joined, cut off, grown, and lines that have nothing to do with them.
func linesFor(texts []string) []string {
	all := joined(texts, "")
	l := []string{
		"", "a", "ab", "b", "\x00", "\xff", "\n", "ushers", "shhe", "xyzzy", "banana", everyByte(),
		strings.Repeat("a", 70), strings.Repeat("ab", 45), strings.Repeat("\xff", 35) + "\x00\x00",
		all, all + all, "x" + all, joined(reversed(texts), ""), joined(texts, " "), joined(texts, "\x00"),
	}
	for _, text := range texts[:min(len(texts), 8)] {
		half, rest := text[:len(text)/2], text[len(text)/2:]
		l = append(l, text, text+text, "s"+text+"h", "\xff"+text, text+"\x00", rest+text, half+text+half)
		if text != "" {
			l = append(l, text[1:], text[:len(text)-1], text[1:]+text, text[:len(text)-1]+text)
		}
	}
	return l
}

func TestEngineIsTheWords(t *testing.T) {
	for _, texts := range long() {
		check(t, texts, linesFor(texts))
	}
}

// Each list in the lines of each other one.
func TestEngineIsTheWordsInOtherLines(t *testing.T) {
	for _, texts := range long() {
		var lines []string
		for _, other := range long() {
			lines = append(lines, joined(other, ""), joined(other, "a"))
		}
		check(t, texts, lines)
	}
}

// All sets of short texts of two bytes, with the empty one and without it, in all short lines of them: all ways against each piece.
func TestShortTextsAreTheWords(t *testing.T) {
	for _, x := range []struct {
		some         string
		bytes, texts int
		line         int
	}{
		{"ab", 2, 6, 7},
		{"ba", 3, 3, 5},
		{"\x00\xff", 4, 1, 8},
		{"ab", 4, 2, 6},
		{"\x7f\x80", 6, 1, 8},
	} {
		lines := linesUpTo(x.some, x.line)
		for _, texts := range setsOf(textsUpTo(x.some, x.bytes), x.texts) {
			check(t, texts, lines)
			check(t, append([]string{""}, texts...), lines)
		}
	}
}

// P17.1

func TestWaysAreNumbered(t *testing.T) {
	if got := ways(); !slices.Equal(got, []int{0, 1, 2, 3}) {
		t.Error(got)
	}
}

// noWays are numbers that are none.
func noWays() []int {
	return []int{-1, -2, -4, 4, 5, 7, 8, 255, 256, 257, 1 << 31, 1<<32 + 1, 1 << 40, -1 << 32, math.MaxInt, math.MinInt, math.MinInt + 1}
}

func TestIs(t *testing.T) {
	for tag := -300; tag <= 300; tag++ {
		if got := engine.Is(tag); got != (tag == 0 || tag == 1 || tag == 2 || tag == 3) {
			t.Errorf("Is(%d) is %v", tag, got)
		}
	}
	for _, tag := range noWays() {
		if engine.Is(tag) {
			t.Errorf("Is(%d)", tag)
		}
	}
}

// sizes are lists with just as many states as may be, and others with one more, or many more.
func sizes() (full, over [][]string) {
	a, b := strings.Repeat("a", 80), strings.Repeat("b", 79)
	full = [][]string{
		{strings.Repeat("a", 159)},
		{everyByte()[97:]},
		{a + b, a},
		{a + b, a, ""},
		{a, b},
		{a + "b", a[:40] + b[:78]},
		singles(50, 159),
		append(singles(50, 159), singles(50, 159)...),
		repeats("\x00", 159),
	}
	for _, texts := range full {
		over = append(over, append(slices.Clone(texts), "c"), append([]string{"\n"}, texts...))
	}
	over = append(over, []string{strings.Repeat("a", 160)}, []string{everyByte()}, []string{a + b + "\xff"}, []string{a + "c", b},
		singles(0, 160), singles(0, 256), repeats("\x00", 160), []string{"", strings.Repeat("ab", 500)}, []string{strings.Repeat("a", 160), "a"})
	// What begins a text that is there already is no state more.
	over = slices.DeleteFunc(over, func(texts []string) bool { return modelOf(texts).states <= 160 })
	return full, over
}

func TestJustAsManyStatesAsMayBe(t *testing.T) {
	full, _ := sizes()
	for _, texts := range full {
		if got := modelOf(texts).states; got != api.StateCap {
			t.Fatalf("%.60q: %d states, so it is no edge", texts, got)
		}
		e, bad := engine.New(engine.Dense, setOf(texts...))
		if e == nil || bad != api.OK {
			t.Errorf("%.60q: the error %d", texts, bad)
			continue
		}
		checkLines(t, e, engine.Dense, texts, linesFor(texts))
	}
}

func TestOneStateMore(t *testing.T) {
	_, over := sizes()
	if len(over) < 20 {
		t.Fatalf("%d lists alone", len(over))
	}
	for _, texts := range over {
		if e, bad := engine.New(engine.Dense, setOf(texts...)); e != nil || bad != api.DFAStates {
			t.Errorf("%.60q: the error %d, and nil is %v", texts, bad, e == nil)
		}
		// How many states there are says nothing of the other ways.
		for _, tag := range []int{engine.Sparse, engine.Walter} {
			checkLines(t, build(t, tag, texts...), tag, texts, linesFor(texts)[:16])
		}
	}
}

// What dfa.New says of a set's patterns is what New does.
func TestDenseIsAsDFASays(t *testing.T) {
	full, over := sizes()
	for _, texts := range slices.Concat(full, over, long()) {
		p := setOf(texts...)
		_, want := dfa.New(p.Patterns()...)
		if e, got := engine.New(engine.Dense, p); got != want || (e == nil) != (want != api.OK) {
			t.Errorf("%.60q: the error %d, not %d", texts, got, want)
		}
	}
}

// load is a set of a file.
func load(t *testing.T, file string, fold bool) patset.Set {
	t.Helper()
	p, bad := patset.Load([]byte(file), fold)
	if bad != api.OK {
		t.Fatalf("the file %.60q: the error %d", file, bad)
	}
	return p
}

func TestTwoWayHasJustOnePattern(t *testing.T) {
	for _, x := range []struct {
		name string
		p    patset.Set
		want api.Errno
	}{
		{"one", setOf("a"), api.OK},
		{"one that came twice", setOf("ab", "ab"), api.OK},
		{"one that came many times", setOf(strings.Split(strings.Repeat("ab ", 50)+"ab", " ")...), api.OK},
		{"a long one", setOf(strings.Repeat("ab", 500)), api.OK},
		{"one with a newline", setOf("a\nb"), api.OK},
		{"a newline", setOf("\n"), api.OK},
		{"the byte 0", setOf("\x00"), api.OK},
		{"the byte 255", setOf("\xff"), api.OK},
		{"a file of one line", load(t, "ab\n", false), api.OK},
		{"a file of one line without its newline", load(t, "ab", false), api.OK},
		{"a file of one line twice", load(t, "ab\nab\n", false), api.OK},
		{"two that are one without case", load(t, "Ab\naB\n", true), api.OK},
		{"two that are one without case alone", load(t, "Ab\naB\n", false), api.TwoWayMisuse},
		{"one line and an empty one", load(t, "ab\n\n", false), api.TwoWayMisuse},
		{"an empty line and one", load(t, "\nab", true), api.TwoWayMisuse},
		{"an empty file", load(t, "", false), api.TwoWayMisuse},
		{"an empty line", load(t, "\n", false), api.TwoWayMisuse},
		{"the zero set", patset.Set{}, api.TwoWayMisuse},
		{"none", setOf(), api.TwoWayMisuse},
		{"the empty one", setOf(""), api.TwoWayMisuse},
		{"the empty one twice", setOf("", ""), api.TwoWayMisuse},
		{"a nil text", patset.Of(nil), api.TwoWayMisuse},
		{"one and the empty one", setOf("a", ""), api.TwoWayMisuse},
		{"the empty one and one", setOf("", "a"), api.TwoWayMisuse},
		{"two", setOf("a", "b"), api.TwoWayMisuse},
		{"two, one of which is the other one's front", setOf("a", "ab"), api.TwoWayMisuse},
		{"two, one of which came twice", setOf("a", "b", "a"), api.TwoWayMisuse},
		{"two and the empty one", setOf("a", "", "b"), api.TwoWayMisuse},
		{"many", setOf(singles(0, 256)...), api.TwoWayMisuse},
	} {
		e, bad := engine.New(engine.TwoWay, x.p)
		if bad != x.want || (e == nil) != (x.want != api.OK) {
			t.Errorf("%s: the error %d, not %d, and nil is %v", x.name, bad, x.want, e == nil)
		}
		// How many patterns there are says nothing of the other ways.
		for _, tag := range []int{engine.Sparse, engine.Walter} {
			if e, bad := engine.New(tag, x.p); e == nil || bad != api.OK {
				t.Errorf("%s, %s: the error %d", x.name, wayName(tag), bad)
			}
		}
	}
}

// The order in which errors are told: no way, misuse, states.
func TestWhichErrorIsTold(t *testing.T) {
	large := strings.Repeat("ab", 200)
	for _, x := range []struct {
		name  string
		tag   int
		texts []string
		want  api.Errno
	}{
		{"no way, none", -1, nil, api.BadEngine},
		{"no way, one", 4, []string{"a"}, api.BadEngine},
		{"no way, the empty one", 4, []string{""}, api.BadEngine},
		{"no way, too many states", -1, []string{large}, api.BadEngine},
		{"no way, two, the empty one, too many states", 4, []string{large, "", "a"}, api.BadEngine},
		{"no way, the dense one's low bits", 1<<32 + 1, []string{large}, api.BadEngine},
		{"no way, the two ways' low bits", 1<<8 + 2, nil, api.BadEngine},
		{"two ways, two, too many states", engine.TwoWay, []string{large, "a"}, api.TwoWayMisuse},
		{"two ways, the empty one, too many states", engine.TwoWay, []string{large, ""}, api.TwoWayMisuse},
		{"two ways, one, too many states for a table", engine.TwoWay, []string{large}, api.OK},
		{"dense, one, too many states", engine.Dense, []string{large}, api.DFAStates},
		{"dense, two, the empty one, too many states", engine.Dense, []string{large, "", "a"}, api.DFAStates},
		{"dense, two, and the empty one", engine.Dense, []string{"b", "", "a"}, api.OK},
		{"dense, none", engine.Dense, nil, api.OK},
		{"sparse, two, the empty one, too many states", engine.Sparse, []string{large, "", "a"}, api.OK},
		{"from ends, two, the empty one, too many states", engine.Walter, []string{large, "", "a"}, api.OK},
		{"sparse, none", engine.Sparse, nil, api.OK},
		{"from ends, none", engine.Walter, nil, api.OK},
	} {
		if e, bad := engine.New(x.tag, setOf(x.texts...)); bad != x.want || (e == nil) != (x.want != api.OK) {
			t.Errorf("%s: the error %d, not %d, and nil is %v", x.name, bad, x.want, e == nil)
		}
	}
}

func TestNoWay(t *testing.T) {
	for _, tag := range noWays() {
		for _, texts := range long() {
			if e, bad := engine.New(tag, setOf(texts...)); e != nil || bad != api.BadEngine {
				t.Errorf("the way %d, of %.60q: the error %d, and nil is %v", tag, texts, bad, e == nil)
			}
		}
	}
}

func TestTag(t *testing.T) {
	for _, tag := range ways() {
		e := build(t, tag, "ab")
		for range 3 {
			if got := e.Tag(); got != tag {
				t.Errorf("%s: %d", wayName(tag), got)
			}
			e.Find(nil, []byte("xab"))
		}
	}
	for _, texts := range [][]string{nil, {""}, {"a", "b"}, {"", "a"}} {
		for _, tag := range []int{engine.Sparse, engine.Dense, engine.Walter} {
			if got := build(t, tag, texts...).Tag(); got != tag {
				t.Errorf("%s, of %q: %d", wayName(tag), texts, got)
			}
		}
	}
}

// none tells whether an engine tells nothing of any line, and counts nothing, whatever the meter.
func none(e *engine.Engine) bool {
	for _, m := range []*meter.Meter{nil, meter.New(), counted()} {
		before := m.Counts()
		for _, line := range append(linesFor([]string{"he", "she"}), strings.Repeat("a", 1000)) {
			if e.Tag() != -1 || len(e.Find(m, []byte(line))) != 0 {
				return false
			}
		}
		if len(e.Find(m, nil)) != 0 || m.Counts() != before {
			return false
		}
	}
	return true
}

func TestNil(t *testing.T) {
	var e *engine.Engine
	if !none(e) {
		t.Error("a nil Engine tells something")
	}
}

// What comes with an error is nil, whatever was asked for.
func TestEngineOfAnErrorIsNil(t *testing.T) {
	for _, x := range []struct {
		tag   int
		texts []string
	}{
		{-1, []string{"he", "she"}},
		{4, []string{"he"}},
		{4, []string{""}},
		{math.MinInt, nil},
		{engine.TwoWay, nil},
		{engine.TwoWay, []string{""}},
		{engine.TwoWay, []string{"he", ""}},
		{engine.TwoWay, []string{"he", "she"}},
		{engine.Dense, []string{"he", strings.Repeat("a", 160)}},
		{engine.Dense, []string{"", "a", strings.Repeat("a", 160)}},
	} {
		e, bad := engine.New(x.tag, setOf(x.texts...))
		if bad == api.OK || e != nil || !none(e) {
			t.Errorf("%s, of %.60q: the error %d, and nil is %v", wayName(x.tag), x.texts, bad, e == nil)
		}
	}
}

// P17.2

// Worked out by hand.
func TestFind(t *testing.T) {
	for _, x := range []struct {
		name  string
		texts []string
		line  string
		want  []api.Pair
	}{
		{"the chapter's example", []string{"ab", ""}, "ab", list(0, 0, 0, 2, 1, 1, 2, 2)},
		{"ordinary texts", []string{"he", "she", "hers"}, "ushers", list(1, 4, 2, 4, 2, 6)},
		{"ordinary texts, in another order", []string{"hers", "she", "he"}, "ushers", list(1, 4, 2, 4, 2, 6)},
		{"no patterns", nil, "abc", nil},
		{"no patterns, and an empty line", nil, "", nil},
		{"the empty one alone", []string{""}, "abc", list(0, 0, 1, 1, 2, 2, 3, 3)},
		{"the empty one twice", []string{"", ""}, "a", list(0, 0, 1, 1)},
		{"the empty one, and an empty line", []string{""}, "", list(0, 0)},
		{"the empty one and another one, and an empty line", []string{"a", ""}, "", list(0, 0)},
		{"the empty one, and nothing else is found", []string{"ab", ""}, "ba", list(0, 0, 1, 1, 2, 2)},
		{"the empty one, and a line that is too short for others", []string{"abcd", ""}, "abc", list(0, 0, 1, 1, 2, 2, 3, 3)},
		{"the empty one, and others that begin at one place", []string{"", "a", "aa"}, "aa", list(0, 0, 0, 1, 0, 2, 1, 1, 1, 2, 2, 2)},
		{"the empty one, and others that end at one place", []string{"b", "ab", ""}, "ab", list(0, 0, 0, 2, 1, 1, 1, 2, 2, 2)},
		{"the empty one between others that came twice", []string{"a", "", "a", ""}, "ba", list(0, 0, 1, 1, 1, 2, 2, 2)},
		{"an empty line", []string{"a"}, "", nil},
		{"a line of one byte", []string{"a"}, "a", list(0, 1)},
		{"a line of another byte", []string{"a"}, "b", nil},
		{"a line that is a pattern", []string{"abc", "abd"}, "abc", list(0, 3)},
		{"a line that is one byte short", []string{"abc"}, "ab", nil},
		{"a line that has none", []string{"ab", "bc"}, "acbbac", nil},
		{"a pattern that came twice", []string{"ab", "ab"}, "xabab", list(1, 3, 3, 5)},
		{"patterns one behind the other", []string{"ab", "cde"}, "abcdeab", list(0, 2, 2, 5, 5, 7)},
		{"patterns that overlap", []string{"abc", "cde"}, "abcde", list(0, 3, 2, 5)},
		{"a pattern that overlaps itself", []string{"aba"}, "ababa", list(0, 3, 2, 5)},
		{"a pattern within another one", []string{"abcd", "bc"}, "xabcdx", list(1, 5, 2, 4)},
		{"patterns within each other", []string{"abcdef", "bcde", "cd"}, "abcdef", list(0, 6, 1, 5, 2, 4)},
		{"found by their ends, but told by their starts", []string{"b", "abc", "d", "bcde"}, "abcde", list(0, 3, 1, 2, 1, 5, 3, 4)},
		{"one byte many times", []string{"aa"}, "aaaa", list(0, 2, 1, 3, 2, 4)},
		{"the byte 0", []string{"\x00\x00"}, "\x00\x00\x00\x01\x00", list(0, 2, 1, 3)},
		{"the byte 255", []string{"\xff"}, "\xfe\xff\xff", list(1, 2, 2, 3)},
		{"bytes beyond 127", []string{"\x80\x81"}, "\x00\x01\x80\x81\x80", list(2, 4)},
		{"a large letter is another byte", []string{"ab"}, "AbaBABab", list(6, 8)},
		{"a newline is a byte", []string{"a\nb"}, "xa\nb", list(1, 4)},
	} {
		for _, tag := range ways() {
			if modelOf(x.texts).bad(tag) != api.OK {
				continue
			}
			if got := build(t, tag, x.texts...).Find(nil, []byte(x.line)); !slices.Equal(got, x.want) {
				t.Errorf("%s, %s: of %q, in %q: %v, not %v", x.name, wayName(tag), x.texts, x.line, got, x.want)
			}
		}
	}
}

func TestEachByteIsFound(t *testing.T) {
	for c := range 256 {
		text := string([]byte{byte(c)})
		line := []byte(everyByte() + text)
		for _, tag := range ways() {
			if got := build(t, tag, text).Find(nil, line); !slices.Equal(got, list(c, c+1, 256, 257)) {
				t.Errorf("%s: the byte %d: %v", wayName(tag), c, got)
			}
		}
	}
}

func TestNilLineIsEmpty(t *testing.T) {
	for _, texts := range long() {
		for _, tag := range ways() {
			w := modelOf(texts)
			if w.bad(tag) != api.OK {
				continue
			}
			e, m := build(t, tag, texts...), counted()
			before := m.Counts()
			for _, line := range [][]byte{nil, {}, []byte("a")[:0]} {
				if got := e.Find(m, line); !slices.Equal(got, w.pieces("")) || m.Counts() != before {
					t.Errorf("%s, of %.60q, in %#v: %v, and %v counted", wayName(tag), texts, line, got, m.Counts())
				}
			}
		}
	}
}

// How long a line is counts, not how much room there is behind it.
func TestLinesEndAtTheirLengths(t *testing.T) {
	room := []byte("abcdefab")
	for _, tag := range ways() {
		e := build(t, tag, "ab")
		for n, want := range [][]api.Pair{nil, nil, list(0, 2), list(0, 2)} {
			if got := e.Find(nil, room[:n]); !slices.Equal(got, want) {
				t.Errorf("%s, of %d bytes: %v, not %v", wayName(tag), n, got, want)
			}
		}
	}
}

func TestPiecesRiseAndFit(t *testing.T) {
	for _, texts := range long() {
		for _, tag := range ways() {
			if modelOf(texts).bad(tag) != api.OK {
				continue
			}
			e := build(t, tag, texts...)
			for _, line := range linesFor(texts) {
				if l := e.Find(nil, []byte(line)); !pairs.Rising(l) || !pairs.Fits(l, len(line)) {
					t.Errorf("%s, of %.60q, in %.60q: %v", wayName(tag), texts, line, l)
				}
			}
		}
	}
}

// The empty pattern adds all empty pieces, and takes none away.
func TestTheEmptyPatternAddsEmptyPieces(t *testing.T) {
	for _, texts := range long() {
		if slices.Contains(texts, "") {
			continue
		}
		for _, tag := range []int{engine.Sparse, engine.Dense, engine.Walter} {
			if modelOf(texts).bad(tag) != api.OK {
				continue
			}
			e, more := build(t, tag, texts...), build(t, tag, append([]string{""}, texts...)...)
			for _, line := range linesFor(texts) {
				b := []byte(line)
				if got, want := more.Find(nil, b), pairs.Merge(e.Find(nil, b), pairs.Empties(len(b))); !slices.Equal(got, want) {
					t.Errorf("%s, of %.60q, in %.60q: %v, not %v", wayName(tag), texts, line, got, want)
				}
			}
		}
	}
}

func TestLongLines(t *testing.T) {
	const n = 50000
	line := []byte(strings.Repeat("~", n) + "the Seine" + strings.Repeat("~", n))
	for _, tag := range ways() {
		if got := build(t, tag, "the Seine").Find(nil, line); !slices.Equal(got, list(n, n+9)) {
			t.Errorf("%s: %d pairs", wayName(tag), len(got))
		}
	}
	for _, tag := range []int{engine.Sparse, engine.Dense, engine.Walter} {
		got := build(t, tag, "the Seine", "").Find(nil, line)
		if len(got) != len(line)+2 || !pairs.Rising(got) || got[n+1] != (api.Pair{Start: n, End: n + 9}) || got[len(line)+1] != (api.Pair{Start: len(line), End: len(line)}) {
			t.Errorf("%s, with the empty one: %d pairs", wayName(tag), len(got))
		}
	}
}

// P17.3

// Worked out by hand: how often each way reads, and looks up.
func TestWhatIsCounted(t *testing.T) {
	for _, x := range []struct {
		name         string
		texts        []string
		line         string
		scans, looks int
	}{
		{"ordinary texts", []string{"he", "she", "hers"}, "ushers", 6, 7},
		{"a fall by way of two", []string{"he", "she"}, "shhe", 4, 6},
		{"no fall", []string{"he", "she"}, "ushe", 4, 4},
		{"one that isn't found", []string{"ab"}, "xyz", 3, 3},
		{"one whose front stands alone", []string{"ab"}, "aaa", 3, 5},
		{"one that is found", []string{"ab"}, "ab", 2, 2},
		{"one, and the empty one", []string{"ab", ""}, "ab", 2, 2},
		{"the empty one, and one that isn't found", []string{"", "ab"}, "xyz", 3, 3},
		{"the line is too short", []string{"abcdef"}, "abc", 3, 3},
		{"an empty line", []string{"ab"}, "", 0, 0},
		{"an empty line, and the empty one", []string{"ab", ""}, "", 0, 0},
		{"no patterns", nil, "abc", 0, 0},
		{"no patterns, and an empty line", nil, "", 0, 0},
		{"no patterns but the empty one", []string{""}, "abc", 0, 0},
		{"no patterns but the empty one, twice", []string{"", ""}, "abcdefgh", 0, 0},
		{"a newline is read as any byte", []string{"a"}, "a\na", 3, 4},
	} {
		for tag, want := range []meter.Counts{{Scan: x.scans, Look: x.looks}, {Scan: x.scans, Look: x.scans}, {}, {}} {
			if modelOf(x.texts).bad(tag) != api.OK {
				continue
			}
			e, m := build(t, tag, x.texts...), meter.New()
			e.Find(m, []byte(x.line))
			if got := m.Counts(); got != want {
				t.Errorf("%s, %s: of %q, in %q: %v, not %v", x.name, wayName(tag), x.texts, x.line, got, want)
			}
		}
	}
}

// The zero set has no patterns, so that nothing is read, and nothing found.
func TestZeroSet(t *testing.T) {
	for _, tag := range []int{engine.Sparse, engine.Dense, engine.Walter} {
		e, bad := engine.New(tag, patset.Set{})
		if e == nil || bad != api.OK {
			t.Errorf("%s: the error %d", wayName(tag), bad)
			continue
		}
		checkLines(t, e, tag, nil, linesFor([]string{"he", "she"}))
	}
}

func TestLinesAreCountedTogether(t *testing.T) {
	m := counted()
	want := m.Counts()
	e := build(t, engine.Sparse, "he", "she", "hers")
	d := build(t, engine.Dense, "he", "she", "hers")
	w := build(t, engine.Walter, "he", "she", "hers")
	b := build(t, engine.TwoWay, "he")
	for range 3 {
		for _, x := range []struct {
			line         string
			scans, looks int
		}{{"ushers", 6, 7}, {"", 0, 0}, {"shhe", 4, 6}, {"xyz", 3, 3}} {
			e.Find(m, []byte(x.line))
			want = sum(want, meter.Counts{Scan: x.scans, Look: x.looks})
			if got := m.Counts(); got != want {
				t.Errorf("sparse, in %q: %v, not %v", x.line, got, want)
			}
			d.Find(m, []byte(x.line))
			want = sum(want, meter.Counts{Scan: x.scans, Look: x.scans})
			if got := m.Counts(); got != want {
				t.Errorf("dense, in %q: %v, not %v", x.line, got, want)
			}
			w.Find(m, []byte(x.line))
			b.Find(m, []byte(x.line))
			if got := m.Counts(); got != want {
				t.Errorf("the others, in %q: %v, not %v", x.line, got, want)
			}
		}
	}
}

// Each call's meter counts alone: none is kept.
func TestMetersAreAlone(t *testing.T) {
	for tag, want := range []meter.Counts{{Scan: 6, Look: 7}, {Scan: 6, Look: 6}, {}, {}} {
		texts := []string{"he", "she", "hers"}
		if tag == engine.TwoWay {
			texts = []string{"he"}
		}
		e, one, other := build(t, tag, texts...), meter.New(), meter.New()
		e.Find(one, []byte("ushers"))
		e.Find(nil, []byte("ushers"))
		e.Find(other, []byte("ushers"))
		e.Find(nil, []byte("ushers"))
		if one.Counts() != want || other.Counts() != want {
			t.Errorf("%s: %v and %v, not %v", wayName(tag), one.Counts(), other.Counts(), want)
		}
	}
}

// P17.4

// mixed is a line of n bytes: texts and other bytes in an order that is always the same.
func mixed(n int, texts []string, seed uint32) []byte {
	var line []byte
	for len(line) < n {
		seed = seed*1664525 + 1013904223
		switch pick := int(seed >> 16); {
		case len(texts) > 0 && pick%3 == 0:
			line = append(line, texts[pick/3%len(texts)]...)
		case len(texts) > 0 && pick%3 == 1:
			text := texts[pick/3%len(texts)]
			line = append(line, text[len(text)/2:]...)
		}
		// One byte at least, so that the line grows where all texts are empty.
		line = append(line, byte(seed>>24)&0x83|'`')
	}
	return line[:n]
}

func TestWhateverTheWayThePiecesAreTheSame(t *testing.T) {
	full, _ := sizes()
	for i, texts := range slices.Concat(long(), full) {
		first := build(t, engine.Sparse, texts...)
		for _, tag := range ways()[1:] {
			if modelOf(texts).bad(tag) != api.OK {
				continue
			}
			e := build(t, tag, texts...)
			for n := range 25 {
				line := mixed(n*n, texts, uint32(100*i+n))
				if got, want := e.Find(nil, line), first.Find(nil, line); !slices.Equal(got, want) {
					t.Fatalf("%s, of %.60q, in %.80q: %v, not %v", wayName(tag), texts, line, got, want)
				}
			}
		}
	}
}

func TestWhateverTheWayShortPiecesAreTheSame(t *testing.T) {
	lines := asBytes(linesUpTo("ab", 8))
	for _, texts := range append(setsOf(linesUpTo("ab", 2), 3), setsOf(textsUpTo("ab", 5), 1)...) {
		first := build(t, engine.Walter, texts...)
		for _, tag := range ways()[:3] {
			if modelOf(texts).bad(tag) != api.OK {
				continue
			}
			e := build(t, tag, texts...)
			for _, line := range lines {
				if got, want := e.Find(nil, line), first.Find(nil, line); !slices.Equal(got, want) {
					t.Fatalf("%s, of %q, in %q: %v, not %v", wayName(tag), texts, line, got, want)
				}
			}
		}
	}
}

// In which order patterns come, and how often, plays no part.
func TestOrderOfPatternsPlaysNoPart(t *testing.T) {
	for _, texts := range long() {
		for _, same := range [][]string{reversed(texts), append(reversed(texts), texts...)} {
			for _, tag := range ways() {
				if modelOf(texts).bad(tag) == api.OK {
					checkLines(t, build(t, tag, same...), tag, texts, linesFor(texts)[:20])
				}
			}
		}
	}
}

// DOC.md, rules 3 and 4

// roomy is a text in memory with room behind it, and that memory as a whole.
func roomy(text string) (b, whole []byte) {
	whole = []byte(text + "ushers")
	return whole[:len(text)], whole
}

// spoil changes all bytes of a text, and those behind it where there is room.
func spoil(b []byte) {
	b = b[:cap(b)]
	for i := range b {
		b[i] ^= 0x55
	}
}

// told is all that a set tells of its patterns.
func told(p patset.Set) string {
	return fmt.Sprintf("%q %v %d %d %v", p.Patterns(), p.Empty(), p.Size(), p.Least(), p.Has([]byte("he")))
}

func TestPatternsAreNeitherChangedNorKept(t *testing.T) {
	for _, texts := range long() {
		for _, tag := range ways() {
			if modelOf(texts).bad(tag) != api.OK {
				continue
			}
			var l, wholes [][]byte
			for _, text := range texts {
				b, whole := roomy(text)
				l, wholes = append(l, b), append(wholes, whole)
			}
			p := patset.Of(l...)
			before := told(p)
			e, _ := engine.New(tag, p)
			e.Find(nil, []byte("ushers"))
			if after := told(p); after != before {
				t.Errorf("%s: the set is %.60s, not %.60s", wayName(tag), after, before)
			}
			for i, text := range texts {
				if string(wholes[i]) != text+"ushers" || string(l[i]) != text {
					t.Errorf("%s, of %.60q: the text at %d was changed", wayName(tag), texts, i)
				}
				spoil(l[i])
				l[i] = []byte("e")
			}
			for _, b := range p.Patterns() {
				spoil(b)
			}
			checkLines(t, e, tag, texts, linesFor(texts)[:20])
		}
	}
}

// A set that is refused isn't changed either.
func TestErrorsChangeNoSet(t *testing.T) {
	for _, texts := range append(long(), []string{"he", strings.Repeat("a", 160)}) {
		p := setOf(texts...)
		before := told(p)
		for _, tag := range append(ways(), noWays()...) {
			engine.New(tag, p)
		}
		if after := told(p); after != before {
			t.Errorf("the set is %.60s, not %.60s", after, before)
		}
	}
}

func TestLinesAreNeitherChangedNorKept(t *testing.T) {
	for _, texts := range long() {
		w := modelOf(texts)
		for _, tag := range ways() {
			if w.bad(tag) != api.OK {
				continue
			}
			e, m := build(t, tag, texts...), meter.New()
			for _, text := range linesFor(texts)[:20] {
				line, whole := roomy(text)
				found := e.Find(m, line)
				if string(whole) != text+"ushers" {
					t.Errorf("%s, of %.60q: the line %.60q was changed", wayName(tag), texts, text)
				}
				spoil(line)
				if !slices.Equal(found, w.pieces(text)) {
					t.Errorf("%s, of %.60q: what was told of %.60q is changed with it", wayName(tag), texts, text)
				}
			}
			checkLines(t, e, tag, texts, linesFor(texts)[:20])
		}
	}
}

// spoilPairs changes all pairs of a list, and those behind it where there is room.
func spoilPairs(l []api.Pair) {
	l = l[:cap(l)]
	for i := range l {
		l[i] = api.Pair{Start: -7, End: -9}
	}
}

// Whoever changes what Find answered, or puts more behind it, changes neither the engine nor another answer.
func TestAnswersAreNewMemory(t *testing.T) {
	for _, texts := range long() {
		w := modelOf(texts)
		for _, tag := range ways() {
			if w.bad(tag) != api.OK {
				continue
			}
			e := build(t, tag, texts...)
			for _, text := range linesFor(texts)[:20] {
				line := []byte(text)
				found, other := e.Find(nil, line), e.Find(nil, line)
				_ = append(found, api.Pair{Start: 5, End: 6})
				spoilPairs(found)
				if string(line) != text || !slices.Equal(other, w.pieces(text)) {
					t.Errorf("%s, of %.60q, in %.60q: answers share memory", wayName(tag), texts, text)
				}
			}
			checkLines(t, e, tag, texts, linesFor(texts)[:20])
		}
	}
}

// Neither another engine, made ahead or later, nor what was asked plays a part.
func TestEnginesAreAlone(t *testing.T) {
	lists := [][]string{{"he", "she", "hers"}, {"e", "", "shsh"}, {"he"}, nil, {""}}
	type made struct {
		e     *engine.Engine
		tag   int
		texts []string
	}
	var all []made
	for _, texts := range lists {
		for _, tag := range ways() {
			if e, bad := engine.New(tag, setOf(texts...)); bad == api.OK {
				all = append(all, made{e, tag, texts})
			}
		}
	}
	for range 3 {
		for _, x := range all {
			checkLines(t, x.e, x.tag, x.texts, linesFor([]string{"hers", "she"}))
		}
	}
}

// Several lines in one order, and in the other one: none plays a part in the next one.
func TestLinesPlayNoPartInOneAnother(t *testing.T) {
	for _, texts := range [][]string{{"he", "she", "hers", ""}, {"abab"}, {"\x00\xff", "\xff"}} {
		lines := linesFor(texts)
		check(t, texts, append(append(slices.Clone(lines), reversed(lines)...), lines...))
	}
}
