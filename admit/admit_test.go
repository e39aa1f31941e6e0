package admit_test

import (
	"bytes"
	"fmt"
	"math"
	"slices"
	"strings"
	"testing"

	"seine/admit"
	"seine/api"
	"seine/fold"
)

// ofWords are the bytes of words.
const ofWords = "ABCDEFGHIJKLMNOPQRSTUVWXYZabcdefghijklmnopqrstuvwxyz0123456789_"

// besideWords are the numbers right below and right above those of words, and those that have one's lower bits.
var besideWords = []int{'A' - 1, 'Z' + 1, 'a' - 1, 'z' + 1, '0' - 1, '9' + 1, '_' - 1, '_' + 1, 'a' + 128, 'A' + 128, '0' + 128, '_' + 128, 0, 127, 128, 255}

// way is one of the four ways of w and x.
type way struct{ w, x bool }

// fourWays are all of them.
func fourWays() []way {
	return []way{{false, false}, {true, false}, {false, true}, {true, true}}
}

// of is the list of pairs whose numbers stand one behind another.
func of(numbers ...int) []api.Pair {
	var l []api.Pair
	for i := 0; i+1 < len(numbers); i += 2 {
		l = append(l, api.Pair{Start: numbers[i], End: numbers[i+1]})
	}
	return l
}

// around are numbers around those from 0 to n, and far from them.
func around(n int) []int {
	l := []int{math.MinInt, math.MinInt + 1, -1 << 32, math.MinInt32, -7, -2, -1}
	for c := range n + 3 {
		l = append(l, c)
	}
	return append(l, 1000, math.MaxInt32, 1<<32, 1<<32+1, math.MaxInt-1, math.MaxInt)
}

// pairsAround are all pairs of these.
func pairsAround(n int) []api.Pair {
	var l []api.Pair
	for _, s := range around(n) {
		for _, e := range around(n) {
			l = append(l, api.Pair{Start: s, End: e})
		}
	}
	return l
}

// isPiece tells whether a pair is one of those that the chapter's words allow of n bytes: none below 0, none that falls, none behind the line.
func isPiece(n int, p api.Pair) bool {
	for e := range n + 1 {
		for s := range e + 1 {
			if p.Start == s && p.End == e {
				return true
			}
		}
	}
	return false
}

// free is P22.1, by a line with a byte at both its ends that is none of words.
func free(line []byte, p api.Pair) bool {
	if !isPiece(len(line), p) || p.Start == p.End {
		return false
	}
	wide := " " + string(line) + " "
	return strings.IndexByte(ofWords, wide[p.Start]) < 0 && strings.IndexByte(ofWords, wide[p.End+1]) < 0
}

// may is P22.2, by what is left of the line when the piece is cut out of it.
func may(line []byte, p api.Pair, w, x bool) bool {
	switch {
	case !isPiece(len(line), p):
		return false
	case w && !free(line, p):
		return false
	}
	left := string(line[:p.Start]) + string(line[p.End:])
	return !x || left == ""
}

// filter is P22.3: those that may.
func filter(line []byte, l []api.Pair, w, x bool) []api.Pair {
	var some []api.Pair
	for _, p := range l {
		if may(line, p, w, x) {
			some = append(some, p)
		}
	}
	return some
}

// checkOne holds Free and May, in all four ways, against the words.
func checkOne(t *testing.T, line []byte, p api.Pair) {
	t.Helper()
	if got, want := admit.Free(line, p), free(line, p); got != want {
		t.Fatalf("Free(%.60q, %d) is %t", line, p, got)
	}
	for _, a := range fourWays() {
		if got, want := admit.May(line, p, a.w, a.x), may(line, p, a.w, a.x); got != want {
			t.Fatalf("May(%.60q, %d, %t, %t) is %t", line, p, a.w, a.x, got)
		}
	}
}

// checkList holds Filter and Any, in all four ways, against the words.
func checkList(t *testing.T, line []byte, l []api.Pair) {
	t.Helper()
	for _, a := range fourWays() {
		got, want := admit.Filter(line, l, a.w, a.x), filter(line, l, a.w, a.x)
		if !slices.Equal(got, want) {
			t.Fatalf("Filter(%.60q, %d, %t, %t) is %d, not %d", line, l, a.w, a.x, got, want)
		}
		if some := admit.Any(line, l, a.w, a.x); some != (len(want) > 0) {
			t.Fatalf("Any(%.60q, %d, %t, %t) is %t", line, l, a.w, a.x, some)
		}
	}
}

// linesOf are all lines of at most most of some bytes.
func linesOf(some string, most int) [][]byte {
	all := [][]byte{nil}
	longest := all
	for range most {
		var longer [][]byte
		for _, l := range longest {
			for i := range len(some) {
				longer = append(longer, append(slices.Clone(l), some[i]))
			}
		}
		all = append(all, longer...)
		longest = longer
	}
	return all
}

// emptyLines are the empty line, nil and not nil, with room behind it and without.
func emptyLines() [][]byte {
	return [][]byte{nil, {}, make([]byte, 0, 9), []byte("abc")[:0], []byte("abc")[3:], []byte("   ")[1:1]}
}

// P22.1

func TestFreeByHand(t *testing.T) {
	for _, x := range []struct {
		line       string
		start, end int
		want       bool
	}{
		// The chapter's examples.
		{"ab cd_", 0, 2, true},
		{"ab cd_", 3, 5, false},
		// At the front, inside, at the end, the whole line.
		{"ab cd ef", 0, 2, true},
		{"ab cd ef", 3, 5, true},
		{"ab cd ef", 6, 8, true},
		{"ab cd ef", 0, 8, true},
		{"ab cd ef", 0, 5, true},
		{"ab cd ef", 3, 8, true},
		{"ab", 0, 2, true},
		{"a", 0, 1, true},
		{"_", 0, 1, true},
		{" ", 0, 1, true},
		{"\x00", 0, 1, true},
		// A byte of words at one side alone, and at both.
		{"ab cd ef", 0, 1, false},
		{"ab cd ef", 1, 2, false},
		{"ab cd ef", 4, 5, false},
		{"ab cd ef", 3, 4, false},
		{"ab cd ef", 6, 7, false},
		{"ab cd ef", 7, 8, false},
		{"ab cd ef", 1, 5, false},
		{"ab cd ef", 0, 4, false},
		{"ab cd ef", 1, 8, false},
		{"ab cd ef", 0, 7, false},
		{"abc", 1, 2, false},
		{"a b", 1, 2, false},
		{"a  b", 1, 2, false},
		{"a  b", 2, 3, false},
		{"a   b", 2, 3, true},
		{"+ab", 1, 3, true},
		{"ab+", 0, 2, true},
		{"+ab+", 1, 3, true},
		{"_ab", 1, 3, false},
		{"ab_", 0, 2, false},
		{"9ab+", 1, 3, false},
		{"+ab9", 1, 3, false},
		// A byte farther off plays no part.
		{"a+b+c", 2, 3, true},
		{"a++c", 2, 3, false},
		{"a+ +c", 2, 3, true},
		// Empty pieces: at the front, inside, at the end; where none of words is near, too.
		{"", 0, 0, false},
		{"ab", 0, 0, false},
		{"ab", 1, 1, false},
		{"ab", 2, 2, false},
		{"+  +", 0, 0, false},
		{"+  +", 2, 2, false},
		{"+  +", 4, 4, false},
		// No pieces.
		{"+  +", -1, 0, false},
		{"+  +", -1, 2, false},
		{"+  +", -1, 4, false},
		{"+  +", 2, 1, false},
		{"+  +", 4, 0, false},
		{"+  +", 0, 5, false},
		{"+  +", 3, 5, false},
		{"+  +", 4, 5, false},
		{"+  +", 5, 5, false},
		{"+  +", 5, 6, false},
		{"+  +", 5, 4, false},
		{"+  +", 1000, 2000, false},
		{"+  +", -5, -3, false},
		{"", 0, 1, false},
		{"", -1, 0, false},
		{"", 1, 1, false},
		{"", 1, 2, false},
		{"", -1, 1, false},
		{"+", math.MinInt, math.MaxInt, false},
		{"+", math.MaxInt, math.MinInt, false},
		{"+", math.MinInt, math.MinInt, false},
		{"+", math.MaxInt, math.MaxInt, false},
		{"+", math.MinInt, 1, false},
		{"+", 0, math.MaxInt, false},
		{"+", 0, math.MinInt, false},
		{"+", math.MaxInt, 1, false},
		{"+", 0, 1<<32 + 1, false},
		{"+", -1 << 32, -1<<32 + 1, false},
	} {
		p := api.Pair{Start: x.start, End: x.end}
		if got := admit.Free([]byte(x.line), p); got != x.want {
			t.Errorf("Free(%q, %d) is %t", x.line, p, got)
		}
		checkOne(t, []byte(x.line), p)
	}
}

// TestFreeBesideEachByte has each of the 256 bytes right ahead of a piece and right behind it, alone and with others farther off.
func TestFreeBesideEachByte(t *testing.T) {
	words := 0
	for c := range 256 {
		b := byte(c)
		is := strings.IndexByte(ofWords, b) >= 0
		if is {
			words++
		}
		if fold.Word(b) != is {
			t.Fatalf("fold.Word(%d) is %t", c, !is)
		}
		for _, in := range []string{"a", "+", "a+", "+_+", "\xff", string([]byte{b}), string([]byte{b, b})} {
			n := len(in)
			for _, x := range []struct {
				line  []byte
				start int
				want  bool
			}{
				{slices.Concat([]byte{b}, []byte(in)), 1, !is},
				{slices.Concat([]byte(in), []byte{b}), 0, !is},
				{slices.Concat([]byte{b}, []byte(in), []byte{b}), 1, !is},
				{slices.Concat([]byte{b}, []byte(in), []byte(" ")), 1, !is},
				{slices.Concat([]byte(" "), []byte(in), []byte{b}), 1, !is},
				{slices.Concat([]byte{b}, []byte(in), []byte("a")), 1, false},
				{slices.Concat([]byte("a"), []byte(in), []byte{b}), 1, false},
				{slices.Concat([]byte("a"), []byte{b}, []byte(in), []byte{b}, []byte("a")), 2, !is},
				{slices.Concat([]byte{b}, []byte(" "), []byte(in), []byte(" "), []byte{b}), 2, true},
				{slices.Concat([]byte{b}, []byte("_"), []byte(in), []byte("_"), []byte{b}), 2, false},
			} {
				p := api.Pair{Start: x.start, End: x.start + n}
				if got := admit.Free(x.line, p); got != x.want {
					t.Fatalf("Free(%q, %d) is %t", x.line, p, got)
				}
				if got := admit.May(x.line, p, true, false); got != x.want {
					t.Fatalf("May(%q, %d) with w is %t", x.line, p, got)
				}
				if !admit.May(x.line, p, false, false) || admit.May(x.line, p, false, true) || admit.May(x.line, p, true, true) {
					t.Fatalf("May(%q, %d) without w, or with x, hangs on what stands beside it", x.line, p)
				}
			}
		}
	}
	if words != 63 {
		t.Errorf("%d bytes are of words", words)
	}
}

func TestFreeBesideThoseNextToWords(t *testing.T) {
	for _, c := range besideWords {
		for _, line := range [][]byte{{byte(c), 'x'}, {byte(c), 'x', byte(c)}, {byte(c), 'x', ' '}, {' ', 'x', byte(c)}} {
			if !admit.Free(line, api.Pair{Start: 1, End: 2}) {
				t.Errorf("Free(%q) of its second byte is false", line)
			}
		}
	}
	for _, c := range []byte("AMZamz059_") {
		for _, line := range [][]byte{{c, '+'}, {c, '+', c}, {c, '+', ' '}, {' ', '+', c}} {
			if admit.Free(line, api.Pair{Start: 1, End: 2}) {
				t.Errorf("Free(%q) of its second byte is true", line)
			}
		}
	}
}

// TestFreeBesideEachTwoBytes has each byte ahead and each behind.
func TestFreeBesideEachTwoBytes(t *testing.T) {
	line := []byte("?x?")
	for one := range 256 {
		for two := range 256 {
			line[0], line[2] = byte(one), byte(two)
			want := strings.IndexByte(ofWords, line[0]) < 0 && strings.IndexByte(ofWords, line[2]) < 0
			if got := admit.Free(line, api.Pair{Start: 1, End: 2}); got != want {
				t.Fatalf("Free(%q) of the middle is %t", line, got)
			}
		}
	}
}

// TestWhatIsInsidePlaysNoPart has each byte at the piece's own ends, and within it.
func TestWhatIsInsidePlaysNoPart(t *testing.T) {
	for c := range 256 {
		b := byte(c)
		for _, in := range [][]byte{{b}, {b, b}, {b, 'a'}, {'a', b}, {b, ' '}, {' ', b}, {' ', b, ' '}, {'_', b, '_'}, {b, 'a', b}} {
			for _, x := range []struct {
				ahead, behind string
				want          bool
			}{
				{"", "", true}, {" ", "", true}, {"", " ", true}, {" ", " ", true},
				{"a", "", false}, {"", "a", false}, {"a", " ", false}, {" ", "a", false}, {"a", "a", false},
			} {
				line := slices.Concat([]byte(x.ahead), in, []byte(x.behind))
				p := api.Pair{Start: len(x.ahead), End: len(x.ahead) + len(in)}
				if got := admit.Free(line, p); got != x.want {
					t.Fatalf("Free(%q, %d) is %t", line, p, got)
				}
				checkOne(t, line, p)
			}
		}
	}
}

// TestWhatIsBehindTheLinePlaysNoPart has room behind the line and ahead of it, with bytes of words, and others.
func TestWhatIsBehindTheLinePlaysNoPart(t *testing.T) {
	for _, beside := range []string{"a", " ", "_", "\x00"} {
		for _, text := range []string{"", "a", "+", "ab cd", "+ab+"} {
			room := []byte(beside + text + beside)
			line := room[1 : 1+len(text)]
			whole := api.Pair{Start: 0, End: len(text)}
			if got := admit.Free(line, whole); got != (text != "") {
				t.Errorf("Free(%q) of the whole line is %t, with %q beside it", text, got, beside)
			}
			for _, p := range pairsAround(len(text)) {
				checkOne(t, line, p)
			}
		}
	}
}

// P22.2

func TestMayByHand(t *testing.T) {
	// Of each pair it is told what may be with none, with w, with x, with both.
	for _, x := range []struct {
		line       string
		start, end int
		want       [4]bool
	}{
		// The empty piece of an empty line.
		{"", 0, 0, [4]bool{true, false, true, false}},
		// Empty pieces of a line that isn't: at its front, inside, at its end.
		{"ab", 0, 0, [4]bool{true, false, false, false}},
		{"ab", 1, 1, [4]bool{true, false, false, false}},
		{"ab", 2, 2, [4]bool{true, false, false, false}},
		{" ", 0, 0, [4]bool{true, false, false, false}},
		{" ", 1, 1, [4]bool{true, false, false, false}},
		// The whole line, of whatever bytes: nothing stands beside it.
		{"a", 0, 1, [4]bool{true, true, true, true}},
		{" ", 0, 1, [4]bool{true, true, true, true}},
		{"ab cd_", 0, 6, [4]bool{true, true, true, true}},
		{"+ab+", 0, 4, [4]bool{true, true, true, true}},
		// One byte short of it, at either end.
		{"ab cd_", 0, 5, [4]bool{true, false, false, false}},
		{"ab cd_", 1, 6, [4]bool{true, false, false, false}},
		{"+ab+", 0, 3, [4]bool{true, true, false, false}},
		{"+ab+", 1, 4, [4]bool{true, true, false, false}},
		{"+ab+", 1, 3, [4]bool{true, true, false, false}},
		{"+ab", 0, 2, [4]bool{true, false, false, false}},
		{"ab+", 1, 3, [4]bool{true, false, false, false}},
		// Free ones, and others, that aren't the whole line.
		{"ab cd_", 0, 2, [4]bool{true, true, false, false}},
		{"ab cd_", 3, 5, [4]bool{true, false, false, false}},
		{"ab cd_", 3, 6, [4]bool{true, true, false, false}},
		{"ab cd_", 2, 3, [4]bool{true, false, false, false}},
		// A line that has the piece twice: it is where it stands.
		{"abab", 0, 2, [4]bool{true, false, false, false}},
		{"ab ab", 3, 5, [4]bool{true, true, false, false}},
		// No pieces.
		{"ab", -1, 2, [4]bool{}},
		{"ab", 0, 3, [4]bool{}},
		{"ab", -1, 3, [4]bool{}},
		{"ab", 2, 0, [4]bool{}},
		{"ab", 1, 0, [4]bool{}},
		{"ab", 2, 1, [4]bool{}},
		{"ab", 3, 2, [4]bool{}},
		{"ab", 3, 3, [4]bool{}},
		{"ab", -1, -1, [4]bool{}},
		{"ab", -1, 0, [4]bool{}},
		{"ab", -2, 0, [4]bool{}},
		{"ab", 500, 502, [4]bool{}},
		{"ab", -502, -500, [4]bool{}},
		{"ab", math.MinInt, 2, [4]bool{}},
		{"ab", 0, math.MinInt, [4]bool{}},
		{"ab", 0, math.MaxInt, [4]bool{}},
		{"ab", math.MaxInt, 2, [4]bool{}},
		{"ab", math.MinInt, math.MinInt, [4]bool{}},
		{"ab", math.MaxInt, math.MaxInt, [4]bool{}},
		{"ab", math.MinInt, math.MaxInt, [4]bool{}},
		{"ab", math.MaxInt, math.MinInt, [4]bool{}},
		{"ab", math.MinInt, math.MinInt + 2, [4]bool{}},
		{"ab", math.MaxInt - 2, math.MaxInt, [4]bool{}},
		{"ab", 1 << 32, 1<<32 + 2, [4]bool{}},
		{"ab", 0, 1<<32 + 2, [4]bool{}},
		{"ab", -1 << 32, 2, [4]bool{}},
		{"", 0, 1, [4]bool{}},
		{"", 1, 0, [4]bool{}},
		{"", 1, 1, [4]bool{}},
		{"", -1, -1, [4]bool{}},
		{"", -1, 0, [4]bool{}},
		{"", 0, -1, [4]bool{}},
		{"", math.MinInt, 0, [4]bool{}},
		{"", 0, math.MaxInt, [4]bool{}},
	} {
		p := api.Pair{Start: x.start, End: x.end}
		for i, a := range fourWays() {
			if got := admit.May([]byte(x.line), p, a.w, a.x); got != x.want[i] {
				t.Errorf("May(%q, %d, %t, %t) is %t", x.line, p, a.w, a.x, got)
			}
		}
		checkOne(t, []byte(x.line), p)
	}
}

func TestMayOfEmptyLines(t *testing.T) {
	for _, line := range emptyLines() {
		for _, p := range pairsAround(0) {
			checkOne(t, line, p)
			for _, a := range fourWays() {
				if got := admit.May(line, p, a.w, a.x); got != (p == api.Pair{} && !a.w) {
					t.Errorf("May of an empty line, %d, %t, %t is %t", p, a.w, a.x, got)
				}
			}
			if admit.Free(line, p) {
				t.Errorf("Free of an empty line, %d is true", p)
			}
		}
	}
}

// TestMayOfAllPairsOfShortLines has all lines of some bytes, and pairs around them and far from them.
func TestMayOfAllPairsOfShortLines(t *testing.T) {
	for _, x := range []struct {
		bytes string
		most  int
	}{{"a+", 6}, {"a_ 9", 4}, {"Zz[\x00\xff", 3}, {"a\n", 4}} {
		for _, line := range linesOf(x.bytes, x.most) {
			for _, p := range pairsAround(len(line)) {
				checkOne(t, line, p)
			}
		}
	}
}

func TestMayOfLongLines(t *testing.T) {
	line := []byte(strings.Repeat("seine, ab_9 +\x00\xff", api.MaxLine/15))
	for s := range len(line) + 1 {
		for _, e := range []int{s - 1, s, s + 1, s + 2, s + 5, len(line) - 1, len(line), len(line) + 1} {
			p := api.Pair{Start: s, End: e}
			// The pieces are not asked for one by one here: that there are so many would take long.
			is := s <= e && e <= len(line)
			ahead := s > 0 && fold.Word(line[s-1])
			behind := is && e < len(line) && fold.Word(line[e])
			isFree := is && s < e && !ahead && !behind
			whole := is && s == 0 && e == len(line)
			want := [4]bool{is, isFree, whole, isFree && whole}
			for i, a := range fourWays() {
				if got := admit.May(line, p, a.w, a.x); got != want[i] {
					t.Fatalf("May of %d bytes, %d, %t, %t is %t", len(line), p, a.w, a.x, got)
				}
			}
			if got := admit.Free(line, p); got != isFree {
				t.Fatalf("Free of %d bytes, %d is %t", len(line), p, got)
			}
		}
	}
}

// TestMayFarInLongLines has pieces that stand far from a line's front: what is beside them is what counts there, too.
func TestMayFarInLongLines(t *testing.T) {
	long := bytes.Repeat([]byte("ab +"), api.MaxInput/4)
	for _, x := range []struct {
		start, end int
		want       [4]bool
	}{
		{0, len(long), [4]bool{true, true, true, true}},
		{0, len(long) + 1, [4]bool{}},
		{0, len(long) - 1, [4]bool{true, true, false, false}},
		{1, len(long), [4]bool{true, false, false, false}},
		{len(long), len(long), [4]bool{true, false, false, false}},
		{len(long) - 1, len(long), [4]bool{true, true, false, false}},
		{len(long) - 4, len(long) - 2, [4]bool{true, true, false, false}},
		{len(long) - 4, len(long) - 3, [4]bool{true, false, false, false}},
		{len(long) - 3, len(long) - 2, [4]bool{true, false, false, false}},
		{1 << 16, 1<<16 + 2, [4]bool{true, true, false, false}},
		{1 << 16, 1<<16 + 1, [4]bool{true, false, false, false}},
	} {
		p := api.Pair{Start: x.start, End: x.end}
		for i, a := range fourWays() {
			if got := admit.May(long, p, a.w, a.x); got != x.want[i] {
				t.Errorf("May of a long line, %d, %t, %t is %t", p, a.w, a.x, got)
			}
		}
		if got := admit.Free(long, p); got != x.want[1] {
			t.Errorf("Free of a long line, %d is %t", p, got)
		}
	}
}

// P22.3

func TestFilterByHand(t *testing.T) {
	const line = "ab cd_"
	all := of(3, 5, 0, 2, 9, 9, 0, 6, 0, 2, 1, 1, 2, 1, 3, 6, -1, 2, 0, 2, 0, 6)
	for _, x := range []struct {
		name string
		line string
		l    []api.Pair
		way  way
		want []api.Pair
	}{
		{"nothing asked", line, all, way{}, of(3, 5, 0, 2, 0, 6, 0, 2, 1, 1, 3, 6, 0, 2, 0, 6)},
		{"w", line, all, way{w: true}, of(0, 2, 0, 6, 0, 2, 3, 6, 0, 2, 0, 6)},
		{"x", line, all, way{x: true}, of(0, 6, 0, 6)},
		{"w and x", line, all, way{w: true, x: true}, of(0, 6, 0, 6)},
		{"none may", line, of(3, 5, 2, 3, 1, 1, 3, 5), way{w: true}, nil},
		{"none is a piece", line, of(-1, 0, 7, 7, 2, 1, 0, 7), way{}, nil},
		{"none is the whole line", line, of(0, 5, 1, 6, 0, 0, 6, 6), way{x: true}, nil},
		{"all may", line, of(3, 6, 0, 2, 3, 6, 0, 6), way{w: true}, of(3, 6, 0, 2, 3, 6, 0, 6)},
		{"all are pieces", line, of(6, 6, 5, 6, 5, 6, 0, 0), way{}, of(6, 6, 5, 6, 5, 6, 0, 0)},
		{"the first alone", line, of(0, 2, 0, 1, 1, 2), way{w: true}, of(0, 2)},
		{"the last alone", line, of(0, 1, 1, 2, 0, 2), way{w: true}, of(0, 2)},
		{"one in the middle", line, of(0, 1, 0, 2, 1, 2), way{w: true}, of(0, 2)},
		{"empty pieces of an empty line", "", of(0, 0, 1, 1, 0, 0, 0, 1), way{x: true}, of(0, 0, 0, 0)},
		{"empty pieces of an empty line, with w", "", of(0, 0, 1, 1, 0, 0, 0, 1), way{w: true}, nil},
		{"nil", line, nil, way{}, nil},
		{"an empty list", line, []api.Pair{}, way{}, nil},
	} {
		got := admit.Filter([]byte(x.line), x.l, x.way.w, x.way.x)
		if !slices.Equal(got, x.want) {
			t.Errorf("%s: it is %d, not %d", x.name, got, x.want)
		}
		if some := admit.Any([]byte(x.line), x.l, x.way.w, x.way.x); some != (len(x.want) > 0) {
			t.Errorf("%s: Any is %t", x.name, some)
		}
		checkList(t, []byte(x.line), x.l)
	}
}

func TestFilterOfNoPairs(t *testing.T) {
	lines := append(emptyLines(), []byte("a"), []byte("ab cd_"))
	for _, line := range lines {
		for _, l := range [][]api.Pair{nil, {}, make([]api.Pair, 0, 4), of(0, 0, 0, 1)[:0]} {
			for _, a := range fourWays() {
				if got := admit.Filter(line, l, a.w, a.x); len(got) != 0 {
					t.Errorf("Filter(%q) of no pairs is %d", line, got)
				}
				if admit.Any(line, l, a.w, a.x) {
					t.Errorf("Any(%q) of no pairs is true", line)
				}
			}
		}
	}
}

// listsOf are all lists of at most most of some pairs: in any order, each also many times.
func listsOf(some []api.Pair, most int) [][]api.Pair {
	all := [][]api.Pair{nil}
	longest := all
	for range most {
		var longer [][]api.Pair
		for _, l := range longest {
			for _, p := range some {
				longer = append(longer, append(slices.Clone(l), p))
			}
		}
		all = append(all, longer...)
		longest = longer
	}
	return all
}

func TestFilterOfAllShortLists(t *testing.T) {
	for _, line := range []string{"", "a", "a ", " a", "a b", "ab"} {
		n := len(line)
		some := of(0, 0, 0, n, 0, 1, n-1, n, n, n, -1, n, 0, n+1, n, 0)
		for _, l := range listsOf(some, 3) {
			checkList(t, []byte(line), l)
		}
	}
}

// turned is a list the other way round.
func turned(l []api.Pair) []api.Pair {
	other := slices.Clone(l)
	slices.Reverse(other)
	return other
}

// TestFilterOfAllPairs has all pairs around short lines, in two orders, once and twice.
func TestFilterOfAllPairs(t *testing.T) {
	for _, line := range linesOf("a_ +", 4) {
		l := pairsAround(len(line))
		for _, x := range [][]api.Pair{l, turned(l), append(slices.Clone(l), l...)} {
			checkList(t, line, x)
		}
	}
}

// TestFilterIsMay has one pair each: it is there just if it may be, and Any tells the same.
func TestFilterIsMay(t *testing.T) {
	for _, line := range linesOf("a +", 4) {
		for _, p := range pairsAround(len(line)) {
			for _, a := range fourWays() {
				is := admit.May(line, p, a.w, a.x)
				got := admit.Filter(line, []api.Pair{p}, a.w, a.x)
				if len(got) == 1 != is || is && got[0] != p || admit.Any(line, []api.Pair{p}, a.w, a.x) != is {
					t.Fatalf("of %q and %d with %v May is %t, and Filter %d", line, p, a, is, got)
				}
			}
		}
	}
}

// TestAnyWhereverItStands has one that may be at each place among others that may not.
func TestAnyWhereverItStands(t *testing.T) {
	line := []byte("ab cd_")
	no := of(3, 5, 1, 2, -1, 2, 7, 7, 0, 0, 4, 3)
	for _, a := range []way{{w: true}, {w: true, x: true}} {
		if admit.Any(line, no, a.w, a.x) {
			t.Errorf("with %v Any of %d is true", a, no)
		}
		for at := range len(no) + 1 {
			l := slices.Insert(slices.Clone(no), at, api.Pair{Start: 0, End: 6})
			if !admit.Any(line, l, a.w, a.x) {
				t.Errorf("with %v Any of %d is false", a, l)
			}
			checkList(t, line, l)
		}
	}
}

func TestFilterOfLongLists(t *testing.T) {
	line := []byte("ab cd_ +")
	l := slices.Repeat(of(0, 2, 3, 5, 3, 6, 8, 8, 9, 9, 7, 8, 0, 8), 1<<14)
	for _, a := range fourWays() {
		want := slices.Repeat(filter(line, l[:7], a.w, a.x), 1<<14)
		if got := admit.Filter(line, l, a.w, a.x); !slices.Equal(got, want) {
			t.Errorf("with %v there are %d of %d, not %d", a, len(got), len(l), len(want))
		}
		no := slices.Repeat(of(9, 9, -1, 0, 2, 1), 1<<14)
		if admit.Any(line, no, a.w, a.x) || len(admit.Filter(line, no, a.w, a.x)) != 0 {
			t.Errorf("with %v some of no pieces may be", a)
		}
		if !admit.Any(line, append(no, api.Pair{Start: 0, End: 8}), a.w, a.x) {
			t.Errorf("with %v the last one may not be", a)
		}
	}
}

// P22.4

func TestNoEmptyPieceWithW(t *testing.T) {
	for _, line := range append(linesOf("a_ +\x00", 4), emptyLines()...) {
		for at := range len(line) + 1 {
			p := api.Pair{Start: at, End: at}
			for _, x := range []bool{false, true} {
				if admit.May(line, p, true, x) || admit.Any(line, []api.Pair{p, p}, true, x) || len(admit.Filter(line, []api.Pair{p, p}, true, x)) > 0 {
					t.Fatalf("of %q the empty piece at %d may be with w", line, at)
				}
			}
			if !admit.May(line, p, false, false) {
				t.Fatalf("of %q the empty piece at %d may not be", line, at)
			}
		}
	}
}

func TestEmptyPieceWithXJustInAnEmptyLine(t *testing.T) {
	for _, line := range append(linesOf("a_ +\x00", 4), emptyLines()...) {
		for at := range len(line) + 1 {
			p := api.Pair{Start: at, End: at}
			want := len(line) == 0
			if got := admit.May(line, p, false, true); got != want {
				t.Fatalf("of %q the empty piece at %d with x: %t", line, at, got)
			}
			if got := admit.Any(line, []api.Pair{p}, false, true); got != want {
				t.Fatalf("of %q Any of the empty piece at %d with x is %t", line, at, got)
			}
			if got := admit.Filter(line, []api.Pair{p, p}, false, true); len(got) == 2 != want || len(got)%2 != 0 {
				t.Fatalf("of %q Filter of the empty piece at %d with x is %d", line, at, got)
			}
		}
	}
}

// TestBothAreBoth holds what w and x ask for together against what each asks for alone.
func TestBothAreBoth(t *testing.T) {
	for _, line := range linesOf("a_ +", 4) {
		for _, p := range pairsAround(len(line)) {
			w, x := admit.May(line, p, true, false), admit.May(line, p, false, true)
			if got := admit.May(line, p, true, true); got != (w && x) {
				t.Fatalf("of %q and %d with w it is %t, with x %t, with both %t", line, p, w, x, got)
			}
			if w != admit.Free(line, p) || (w || x) && !admit.May(line, p, false, false) {
				t.Fatalf("of %q and %d w is %t, x %t, Free %t", line, p, w, x, admit.Free(line, p))
			}
		}
	}
}

// DOC.md, rules 3 and 4

// roomy is a line and a list with room behind them, whose bytes and pairs are no part of them.
func roomy() (room []byte, roomOf []api.Pair) {
	return []byte("ab cd_ Tail"), of(3, 5, 0, 2, 9, 9, 0, 6, 0, 2, 1, 1, 2, 1, 3, 6, 0, 6, 0, 2, 1, 2)
}

// How much of these is handed in.
const lineBytes, listPairs = 6, 9

func TestNothingHandedInIsChanged(t *testing.T) {
	for _, a := range fourWays() {
		room, roomOf := roomy()
		wasLine, wasList := slices.Clone(room), slices.Clone(roomOf)
		line, l := room[:lineBytes], roomOf[:listPairs]
		got := admit.Filter(line, l, a.w, a.x)
		admit.Any(line, l, a.w, a.x)
		for _, p := range l {
			admit.Free(line, p)
			admit.May(line, p, a.w, a.x)
		}
		if !slices.Equal(room, wasLine) || !slices.Equal(roomOf, wasList) {
			t.Fatalf("with %v: the line is %q, the list %d", a, room, roomOf)
		}
		for i := range got {
			got[i] = api.Pair{Start: -77, End: 77}
		}
		got = append(got, of(-78, 78, -79, 79)...)
		got = got[:cap(got)]
		for i := range got {
			got[i] = api.Pair{Start: -80, End: 80}
		}
		if !slices.Equal(room, wasLine) || !slices.Equal(roomOf, wasList) {
			t.Fatalf("with %v: with what is answered the line is %q, the list %d", a, room, roomOf)
		}
	}
}

func TestFilterIsNewMemory(t *testing.T) {
	for _, a := range fourWays() {
		for _, l := range [][]api.Pair{of(3, 5, 0, 2, 0, 6), of(0, 6), of(0, 6, 0, 6, 0, 6)} {
			room, _ := roomy()
			line := room[:lineBytes]
			one, two := admit.Filter(line, l, a.w, a.x), admit.Filter(line, l, a.w, a.x)
			want := slices.Clone(two)
			// What was handed in, and the other answer, are changed: nothing of them shows.
			for i := range l {
				l[i] = api.Pair{Start: 5, End: 5}
			}
			for i := range one {
				one[i] = api.Pair{Start: 7, End: 7}
			}
			for i := range room {
				room[i] = 'z'
			}
			_ = append(one, of(8, 8)...)
			if !slices.Equal(two, want) {
				t.Fatalf("with %v it became %d, not %d", a, two, want)
			}
		}
	}
}

// TestWhatIsHandedInIsNotKept changes the bytes of one line and the pairs of one list between calls: each call has the answer of what is there then.
func TestWhatIsHandedInIsNotKept(t *testing.T) {
	line, l := []byte("?a?"), of(1, 2, 1, 2)
	for _, ahead := range []byte("a +_") {
		for _, behind := range []byte("9. ") {
			line[0], line[2] = ahead, behind
			for _, p := range pairsAround(3) {
				l[0] = p
				checkOne(t, line, p)
				checkList(t, line, l)
			}
		}
	}
}

func TestSameCallsSameAnswers(t *testing.T) {
	room, roomOf := roomy()
	line, l := room[:lineBytes], roomOf[:listPairs]
	answers := func(line []byte, l []api.Pair) string {
		s := ""
		for _, a := range fourWays() {
			s += fmt.Sprint(admit.Filter(line, l, a.w, a.x), admit.Any(line, l, a.w, a.x))
			for _, p := range l {
				s += fmt.Sprint(admit.Free(line, p), admit.May(line, p, a.w, a.x))
			}
		}
		return s
	}
	want := answers(line, l)
	for _, other := range linesOf("a +", 2) {
		answers(other, pairsAround(len(other)))
		// Neither room behind what is handed in nor where it lies plays a part.
		if got := answers(slices.Clone(line), slices.Clone(l)); got != want {
			t.Fatalf("behind %q there are other answers", other)
		}
	}
	if answers(nil, nil) != answers([]byte{}, []api.Pair{}) || answers(nil, l) != answers([]byte{}, l) {
		t.Error("nil and empty have two answers")
	}
}
