package twoway_test

import (
	"fmt"
	"math"
	"slices"
	"strings"
	"testing"

	"seine/api"
	"seine/critical"
	"seine/sparse"
	"seine/twoway"
)

// everyByte is each byte once, rising.
func everyByte() string {
	var l []byte
	for b := range 256 {
		l = append(l, byte(b))
	}
	return string(l)
}

// backwards is a text from its last byte to its first.
func backwards(text string) string {
	l := []byte(text)
	slices.Reverse(l)
	return string(l)
}

// fibonacci is two bytes by no turns: each text is the two ahead of it, joined.
func fibonacci(n int) string {
	a, b := "b", "a"
	for range n {
		a, b = b, b+a
	}
	return b
}

// short are all texts of at most n bytes, of some bytes.
func short(some string, n int) []string {
	all, last := []string{""}, []string{""}
	for range n {
		var next []string
		for _, text := range last {
			for i := range len(some) {
				next = append(next, text+some[i:i+1])
			}
		}
		all, last = append(all, next...), next
	}
	return all
}

// texts are ordinary texts that aren't empty, and edges.
func texts() []string {
	return []string{
		"a",
		"\x00",
		"\xff",
		"\n",
		"ab",
		"ba",
		"aa",
		strings.Repeat("a", 37),
		strings.Repeat("\x00", 8),
		strings.Repeat("\xff", 9),
		"banana",
		"abcabcab",
		"aabaabaa",
		"the Seine, the Marne, the Oise, the Seine",
		"Seine\nseine\nSEINE\n",
		strings.Repeat("ab", 12),
		strings.Repeat("ab", 12) + "a",
		"aaaaaaab",
		"baaaaaaa",
		"abbbbbbb",
		"bbbbbbba",
		"aaabaaaa",
		"aaabaaab",
		"aabababab",
		"aabaacaabaa",
		strings.Repeat("aabaac", 5) + "aab",
		strings.Repeat("seine ", 7) + "sei",
		"abacabadabacaba",
		fibonacci(8),
		fibonacci(8)[3:],
		backwards(fibonacci(8)),
		"\x7f\x80\x7f\x80\x7f",
		"\x00\xff\x00\xff",
		"\xc3\xa4\xc3\xb6\xc3\xa4",
		everyByte(),
		backwards(everyByte())[100:] + everyByte(),
	}
}

// turned is a text with one byte changed to another one.
func turned(text string, at int, by byte) string {
	l := []byte(text)
	l[at] ^= by
	return string(l)
}

// linesOf are lines in which a text stands, nearly stands, and doesn't.
func linesOf(text string) []string {
	half := text[:len(text)/2]
	rest := text[len(text)/2:]
	l := []string{
		"",
		text,
		text[1:],
		text[:len(text)-1],
		"x" + text,
		text + "x",
		"x" + text + "x",
		text[:1] + text,
		text + text[len(text)-1:],
		text + text,
		text + "\x00" + text,
		text + "\xff" + text + "\n",
		strings.Repeat(text, 5),
		strings.Repeat(text, 4) + half,
		rest + strings.Repeat(text, 4),
		rest + text + half + text + rest + half,
		half + half + text + rest + rest,
		strings.Repeat(text[1:], 4) + text,
		strings.Repeat(text[:len(text)-1], 4) + text,
		backwards(text) + text + backwards(text),
	}
	// The text, but for its first byte, its last one, those on both sides of the cut, and
	// one in its middle: alone, and among others that stand there.
	cut := critical.Factor([]byte(text)).At
	for _, at := range []int{0, len(text) - 1, max(cut-1, 0), cut, len(text) / 2} {
		for _, by := range []byte{1, 3, 128, 255} {
			near := turned(text, at, by)
			l = append(l, near, near+text, text+near+text, half+near+rest+text, near+near[1:]+text)
		}
	}
	return l
}

// froms are places of a line of n bytes from which may be looked, and others.
func froms(n int) []int {
	l := []int{math.MinInt, math.MinInt + 1, math.MinInt32, -1 << 32, -n - 1, -n, -2, n + 2, 2*n + 1, math.MaxInt32, 1 << 32, math.MaxInt - 1, math.MaxInt}
	for from := -1; from <= n+1; from++ {
		l = append(l, from)
	}
	return l
}

// placesOf is where a text stands in a line, by the words alone.
func placesOf(text, line string) []int {
	var l []int
	for at := 0; at+len(text) <= len(line); at++ {
		if line[at:at+len(text)] == text {
			l = append(l, at)
		}
	}
	return l
}

// nextOf is the least of some rising places, from one on; -1: none.
func nextOf(places []int, from int) int {
	for _, at := range places {
		if at >= from {
			return at
		}
	}
	return -1
}

// piecesOf are the pieces of some places.
func piecesOf(places []int, n int) []api.Pair {
	var l []api.Pair
	for _, at := range places {
		l = append(l, api.Pair{Start: at, End: at + n})
	}
	return l
}

// made is one for a text that isn't empty.
func made(t *testing.T, text string) *twoway.Two {
	t.Helper()
	x, err := twoway.New([]byte(text))
	if x == nil || err != api.OK {
		t.Fatalf("New of %.60q: %v, %v", text, x, err)
	}
	return x
}

// check holds all that is answered of one text in one line against the words.
func check(t *testing.T, x *twoway.Two, text, line string) {
	t.Helper()
	places := placesOf(text, line)
	if got, want := x.Scan([]byte(line)), piecesOf(places, len(text)); !slices.Equal(got, want) {
		t.Errorf("%.60q in %.60q: %v, not %v", text, line, got, want)
	}
	for _, from := range froms(len(line)) {
		if got, want := x.Next([]byte(line), from), nextOf(places, from); got != want {
			t.Errorf("%.60q in %.60q from %d: %d, not %d", text, line, from, got, want)
		}
	}
}

func TestTextsAreTheWords(t *testing.T) {
	for _, text := range texts() {
		x := made(t, text)
		for _, line := range linesOf(text) {
			check(t, x, text, line)
		}
	}
}

// Each of the texts in the lines of each other one.
func TestTextsInOthersAreTheWords(t *testing.T) {
	for _, text := range texts() {
		x := made(t, text)
		for _, other := range texts() {
			for _, line := range []string{other, other + text + other, other + other} {
				want := piecesOf(placesOf(text, line), len(text))
				if got := x.Scan([]byte(line)); !slices.Equal(got, want) {
					t.Errorf("%.60q in %.60q: %v, not %v", text, line, got, want)
				}
			}
		}
	}
}

// All short texts of two bytes in all short lines of them.
func TestShortTextsAreTheWords(t *testing.T) {
	lines := short("ab", 9)
	for _, text := range short("ab", 5)[1:] {
		x := made(t, text)
		for _, line := range lines {
			check(t, x, text, line)
		}
	}
	lines = short("\x00\x80\xff", 5)
	for _, text := range short("\x00\x80\xff", 3)[1:] {
		x := made(t, text)
		for _, line := range lines {
			check(t, x, text, line)
		}
	}
}

// Longer ones, whole lines alone: texts whose cut has bytes enough on both its sides.
func TestLongerTextsAreTheWords(t *testing.T) {
	lines := short("ab", 11)
	for _, text := range short("ab", 8)[1:] {
		x := made(t, text)
		for _, line := range lines {
			places := placesOf(text, line)
			if got, want := x.Scan([]byte(line)), piecesOf(places, len(text)); !slices.Equal(got, want) {
				t.Errorf("%q in %q: %v, not %v", text, line, got, want)
			}
		}
	}
}

// A short text several times over, cut off behind each byte, with one byte changed wherever it stands.
func TestRepeatsAreTheWords(t *testing.T) {
	for _, text := range short("ab", 5)[1:] {
		long := strings.Repeat(text, 4)
		for n := len(text); n <= 2*len(text)+1; n++ {
			x := made(t, long[:n])
			for at := range len(long) {
				line := turned(long, at, 3)
				check(t, x, long[:n], line)
				places := placesOf(long[:n], line+long)
				if got, want := x.Scan([]byte(line+long)), piecesOf(places, n); !slices.Equal(got, want) {
					t.Errorf("%q in %q: %v, not %v", long[:n], line+long, got, want)
				}
			}
		}
	}
}

// P13.1

func TestNewOfAnEmptyText(t *testing.T) {
	for _, b := range [][]byte{nil, {}, []byte("a")[:0], make([]byte, 0, 8)} {
		if x, err := twoway.New(b); x != nil || err != api.ErrArg {
			t.Errorf("New of %#v: %v, %v", b, x, err)
		}
	}
}

func TestNewFindsItsText(t *testing.T) {
	for _, text := range append(texts(), append(short("ab", 10)[1:], short("\x00a\xff", 6)[1:]...)...) {
		x := made(t, text)
		if got := x.Next([]byte(text), 0); got != 0 {
			t.Errorf("Next of %.60q in itself: %d", text, got)
		}
		want := []api.Pair{{Start: 0, End: len(text)}}
		if got := x.Scan([]byte(text)); !slices.Equal(got, want) {
			t.Errorf("Scan of %.60q in itself: %v", text, got)
		}
		if got := x.Next([]byte("~~~"+text+"~~~"), 1); got != 3 {
			t.Errorf("Next of %.60q, three bytes on: %d", text, got)
		}
	}
}

// Each byte is found, and no other one is taken for it.
func TestNewOfEachByte(t *testing.T) {
	for i := range 256 {
		x := made(t, string([]byte{byte(i)}))
		if got := x.Next([]byte(everyByte()), 0); got != i {
			t.Errorf("the byte %d: at %d", i, got)
		}
		want := []api.Pair{{Start: i, End: i + 1}, {Start: 511 - i, End: 512 - i}}
		if got := x.Scan([]byte(everyByte() + backwards(everyByte()))); !slices.Equal(got, want) {
			t.Errorf("the byte %d: %v", i, got)
		}
	}
}

// The tests' texts are of both kinds, with cuts at the front, ahead of the middle, in it and behind it.
func TestTextsAreOfAllKinds(t *testing.T) {
	kinds := map[string]int{}
	for _, text := range texts() {
		s := critical.Factor([]byte(text))
		where := "ahead of"
		switch {
		case s.At == 0:
			where = "front"
		case 2*s.At == len(text):
			where = "in"
		case 2*s.At > len(text):
			where = "behind"
		}
		kinds[fmt.Sprint(where, s.Small)]++
	}
	// What is Small is cut ahead of its middle, and what is cut at its front is Small.
	for _, kind := range []string{"fronttrue", "ahead oftrue", "ahead offalse", "infalse", "behindfalse"} {
		if kinds[kind] == 0 {
			t.Errorf("no text is %s: %v", kind, kinds)
		}
	}
}

// P13.2

func TestNext(t *testing.T) {
	for _, x := range []struct {
		name       string
		text, line string
		from, want int
	}{
		{"the chapter's example, from its front", "aa", "aaa", 0, 0},
		{"the chapter's example", "aa", "aaa", 1, 1},
		{"the chapter's example, from the last byte on", "aa", "aaa", 2, -1},
		{"an empty line", "a", "", 0, -1},
		{"a line that is too short", "ab", "a", 0, -1},
		{"a line that is too short, its end", "ab", "b", 0, -1},
		{"the text itself", "ab", "ab", 0, 0},
		{"the text itself, from one byte on", "ab", "ab", 1, -1},
		{"the text itself, from its end on", "ab", "ab", 2, -1},
		{"the text itself, from behind its end on", "ab", "ab", 3, -1},
		{"a byte ahead", "ab", "xab", 0, 1},
		{"a byte behind", "ab", "abx", 0, 0},
		{"bytes on both sides", "ab", "xxabxx", 0, 2},
		{"from where it stands", "ab", "xxabxx", 2, 2},
		{"from one behind where it stands", "ab", "xxabxx", 3, -1},
		{"twice, from the first one", "ab", "abab", 0, 0},
		{"twice, from one behind the first one", "ab", "abab", 1, 2},
		{"twice, from the second one", "ab", "abab", 2, 2},
		{"twice, from one behind the second one", "ab", "abab", 3, -1},
		{"at the line's end", "banana", "bananabanana", 1, 6},
		{"pieces that share bytes", "ana", "banana", 2, 3},
		{"pieces that share bytes, from the first one", "ana", "banana", 1, 1},
		{"from below 0", "ab", "abab", -1, 0},
		{"from far below 0", "ab", "abab", -5, 0},
		{"from the least int", "ab", "xab", math.MinInt, 1},
		{"from the greatest int", "ab", "xab", math.MaxInt, -1},
		{"from the greatest int but one", "a", "aaa", math.MaxInt - 1, -1},
		{"from the line's last byte", "b", "aab", 2, 2},
		{"from the line's end", "b", "aab", 3, -1},
		{"from above the line's end", "b", "aab", 4, -1},
		{"from 0 of an empty line", "aa", "", 0, -1},
		{"from below 0 of an empty line", "aa", "", -1, -1},
		{"its last bytes at the line's front", "abc", "bcabc", 0, 2},
		{"its first bytes at the line's end", "abc", "xabcab", 2, -1},
		{"but for its first byte", "banana", "xanana", 0, -1},
		{"but for its last byte", "banana", "bananx", 0, -1},
		{"but for the one ahead of the cut", "banana", "bxnana", 0, -1},
		{"but for the one behind the cut", "banana", "baxana", 0, -1},
		{"large letters are other bytes", "ab", "AbaBABab", 0, 6},
		{"a newline is a byte", "a\nb", "xa\nb", 0, 1},
		{"the byte 0", "\x00", "\x01\x00", 0, 1},
		{"the byte 0 twice", "\x00\x00", "\x00\x01\x00\x00", 0, 2},
		{"the byte 255", "\xff", "\x7f\xfe\xff", 0, 2},
		{"bytes beyond 127", "\x80\xff", "\xff\x80\xff", 0, 1},
		{"a part that comes again ahead of the text", "abcabcab", "abcabcaabcabcab", 0, 7},
		{"known bytes, and then another one", "aabaab", "aabaaaabaab", 0, 5},
		{"as many known bytes as there are", "aaaa", "aaabaaaa", 0, 4},
	} {
		if got := made(t, x.text).Next([]byte(x.line), x.from); got != x.want {
			t.Errorf("%s: %q in %q from %d: %d, not %d", x.name, x.text, x.line, x.from, got, x.want)
		}
	}
}

func TestScan(t *testing.T) {
	for _, x := range []struct {
		name       string
		text, line string
		want       []int // the places alone
	}{
		{"the chapter's example", "aa", "aaa", []int{0, 1}},
		{"an empty line", "aa", "", nil},
		{"a line that is too short", "aa", "a", nil},
		{"the text itself", "aa", "aa", []int{0}},
		{"none", "aa", "ababab", nil},
		{"one byte", "a", "banana", []int{1, 3, 5}},
		{"one byte, each one", "a", "aaaa", []int{0, 1, 2, 3}},
		{"a byte ahead", "ab", "xab", []int{1}},
		{"a byte behind", "ab", "abx", []int{0}},
		{"several times over", "abc", "abcabcabc", []int{0, 3, 6}},
		{"several times over, cut off", "abc", "abcabcab", []int{0, 3}},
		{"pieces that share bytes", "ana", "banana", []int{1, 3}},
		{"pieces that share most bytes", "aaaa", "aaaaaa", []int{0, 1, 2}},
		{"pieces that share a period's bytes", "abab", "abababab", []int{0, 2, 4}},
		{"pieces that share a period's bytes, and one that is broken", "abab", "ababaxababab", []int{0, 6, 8}},
		{"pieces that share one byte", "abca", "abcabcabca", []int{0, 3, 6}},
		{"pieces of a text that isn't Small share bytes", "babcbab", "babcbabcbab", []int{0, 4}},
		{"with gaps", "seine", "seine, seine; Seine seineseine", []int{0, 7, 20, 25}},
		{"nearly", "banana", "xananabxnanabanaxabananx", nil},
		{"nearly, and then", "banana", "bananbananabanana", []int{5, 11}},
		{"0 and 255", "\x00\xff", "\x00\x00\xff\xff\x00\xff", []int{1, 4}},
		{"beyond 127", "\x80", "\x00\x80\x80", []int{1, 2}},
	} {
		if got, want := made(t, x.text).Scan([]byte(x.line)), piecesOf(x.want, len(x.text)); !slices.Equal(got, want) {
			t.Errorf("%s: %q in %q: %v, not %v", x.name, x.text, x.line, got, want)
		}
	}
}

// The text with each one of its bytes changed, to each other byte, stands nowhere; the line that goes on with it has it there alone.
func TestNearlyTheText(t *testing.T) {
	for _, text := range texts() {
		x := made(t, text)
		for at := range min(len(text), 50) {
			for by := 1; by < 256; by += 2 {
				near := turned(text, at, byte(by))
				if got := x.Next([]byte(near), 0); got != -1 {
					t.Errorf("%.60q in %.60q: %d", text, near, got)
				}
				want := piecesOf(placesOf(text, near+text), len(text))
				if got := x.Scan([]byte(near + text)); !slices.Equal(got, want) {
					t.Errorf("%.60q in %.60q: %v, not %v", text, near+text, got, want)
				}
			}
		}
	}
}

// Next, gone on with one behind what it answered, is what Scan tells.
func TestNextByNextIsScan(t *testing.T) {
	for _, text := range texts() {
		x := made(t, text)
		for _, line := range linesOf(text) {
			var got []api.Pair
			for at := x.Next([]byte(line), -1); at >= 0; at = x.Next([]byte(line), at+1) {
				got = append(got, api.Pair{Start: at, End: at + len(text)})
			}
			if want := x.Scan([]byte(line)); !slices.Equal(got, want) {
				t.Errorf("%.60q in %.60q: one by one %v, Scan %v", text, line, got, want)
			}
		}
	}
}

func TestNil(t *testing.T) {
	var x *twoway.Two
	for _, line := range []string{"", "a", "aaa", everyByte()} {
		for _, from := range froms(len(line)) {
			if got := x.Next([]byte(line), from); got != -1 {
				t.Errorf("Next of nil in %.60q from %d: %d", line, from, got)
			}
		}
		if got := x.Scan([]byte(line)); len(got) != 0 {
			t.Errorf("Scan of nil in %.60q: %v", line, got)
		}
	}
	if x.Next(nil, 0) != -1 || len(x.Scan(nil)) != 0 {
		t.Error("of nil in nil")
	}
}

func TestNilLineIsEmpty(t *testing.T) {
	for _, text := range texts() {
		x := made(t, text)
		for _, line := range [][]byte{nil, {}, []byte(text)[:0]} {
			if got := x.Scan(line); len(got) != 0 {
				t.Errorf("Scan of %.60q in %#v: %v", text, line, got)
			}
			for _, from := range froms(0) {
				if got := x.Next(line, from); got != -1 {
					t.Errorf("Next of %.60q in %#v from %d: %d", text, line, from, got)
				}
			}
		}
	}
}

// Long lines and long texts, whose pieces share most of their bytes: what is known isn't asked for again, or this wouldn't end soon.
func TestLongLines(t *testing.T) {
	const n = 1 << 19
	same, turns := strings.Repeat("a", n), strings.Repeat("abc", n)
	for _, x := range []struct {
		name       string
		text, line string
		count      int
		from, last int // the least place, and the greatest one
	}{
		{"one byte, half the line", same, same + same, n + 1, 0, n},
		{"one byte, and one that is less at its end", same + "A", same + same + "A", 1, n, n},
		{"one byte, and one that is greater at its end", same + "b", same + same + "b", 1, n, n},
		{"one byte, and one that is less at its front", "A" + same, "A" + same + same, 1, 0, 0},
		{"one byte, and one that is greater at its front", "b" + same, same + "b" + same, 1, n, n},
		{"one byte, another one in its middle", same + "b" + same, same + same + "b" + same + same, 1, n, n},
		{"one byte, another one in the line's middle", same, same[1:] + "b" + same, 1, n, n},
		{"one byte, another one at the line's end", same, same + same[1:] + "b", n, 0, n - 1},
		{"three by turns", turns, turns + turns, n + 1, 0, 3 * n},
		{"three by turns, cut off", turns + "ab", turns + turns + "a", n, 0, 3*n - 3},
		{"three by turns, but for the last one", turns + "abd", turns + turns + "abd", 1, 3 * n, 3 * n},
		{"three by turns, but for the first one", "x" + turns, "x" + turns + turns, 1, 0, 0},
		{"a short one", "bca", turns, n - 1, 1, 3*n - 5},
		{"one byte that isn't there", "x", turns, 0, -1, 0},
		{"a text that is too long", turns + "a", turns, 0, -1, 0},
	} {
		two, line := made(t, x.text), []byte(x.line)
		got := two.Scan(line)
		if len(got) != x.count {
			t.Errorf("%s: %d pieces, not %d", x.name, len(got), x.count)
		}
		if at := two.Next(line, 0); at != x.from {
			t.Errorf("%s: Next is %d, not %d", x.name, at, x.from)
		}
		if len(got) == 0 {
			continue
		}
		if one, last := got[0].Start, got[len(got)-1].Start; one != x.from || last != x.last {
			t.Errorf("%s: from %d to %d, not from %d to %d", x.name, one, last, x.from, x.last)
		}
		for i, p := range got {
			if p.End != p.Start+len(x.text) || i > 0 && p.Start <= got[i-1].Start {
				t.Fatalf("%s: the piece %d is %v", x.name, i, p)
			}
		}
		if at := two.Next(line, x.last+1); at != -1 {
			t.Errorf("%s: Next behind the last one is %d", x.name, at)
		}
	}
}

// P13.3

func TestPiecesAreThoseOfSparse(t *testing.T) {
	found, none := 0, 0
	for _, text := range texts() {
		x, f := made(t, text), sparse.New([]byte(text))
		for _, line := range linesOf(text) {
			got, want := x.Scan([]byte(line)), f.Scan(nil, []byte(line))
			if !slices.Equal(got, want) {
				t.Errorf("%.60q in %.60q: %v, sparse finds %v", text, line, got, want)
			}
			if len(want) > 0 {
				found++
			} else {
				none++
			}
		}
	}
	if found == 0 || none == 0 {
		t.Errorf("found in %d lines, not in %d", found, none)
	}
}

func TestShortPiecesAreThoseOfSparse(t *testing.T) {
	lines := short("ab", 8)
	for _, text := range short("ab", 5)[1:] {
		x, f := made(t, text), sparse.New([]byte(text))
		for _, line := range lines {
			if got, want := x.Scan([]byte(line)), f.Scan(nil, []byte(line)); !slices.Equal(got, want) {
				t.Errorf("%q in %q: %v, sparse finds %v", text, line, got, want)
			}
		}
	}
	lines = short("abc", 6)
	for _, text := range short("abc", 3)[1:] {
		x, f := made(t, text), sparse.New([]byte(text))
		for _, line := range lines {
			if got, want := x.Scan([]byte(line)), f.Scan(nil, []byte(line)); !slices.Equal(got, want) {
				t.Errorf("%q in %q: %v, sparse finds %v", text, line, got, want)
			}
		}
	}
}

// Fibonacci's texts have as many periods as may be.
func TestFibonacciPiecesAreThoseOfSparse(t *testing.T) {
	line := fibonacci(14)
	for n := 1; n <= 60; n++ {
		for from := range 30 {
			text := line[from : from+n]
			x, f := made(t, text), sparse.New([]byte(text))
			if got, want := x.Scan([]byte(line)), f.Scan(nil, []byte(line)); !slices.Equal(got, want) {
				t.Errorf("%q: %v, sparse finds %v", text, got, want)
			}
		}
	}
}

// DOC.md, rules 3 and 4

// answers is all that is answered of a line.
func answers(x *twoway.Two, line []byte) string {
	l := []any{x.Scan(line)}
	for from := -1; from <= len(line)+1; from++ {
		l = append(l, x.Next(line, from))
	}
	return fmt.Sprint(l...)
}

// roomy is a text with bytes behind it, and all of its memory.
func roomy(text, behind string) ([]byte, []byte) {
	whole := []byte(text + behind)
	return whole[:len(text)], whole
}

// spoil changes all bytes of a text, and those behind it where there is room.
func spoil(b []byte) {
	b = b[:cap(b)]
	for i := range b {
		b[i] = '~'
	}
}

// What New was handed is neither changed nor kept: it may be changed afterwards.
func TestTextsAreNeitherChangedNorKept(t *testing.T) {
	for _, text := range texts() {
		b, whole := roomy(text, "behind")
		x, _ := twoway.New(b)
		line := []byte("x" + text + text + "x")
		first := answers(x, line)
		if string(whole) != text+"behind" {
			t.Errorf("%.60q was changed", text)
		}
		spoil(b)
		if again := answers(x, line); again != first {
			t.Errorf("%.60q: first %s, then %s", text, first, again)
		}
		if got := x.Next([]byte("~"+strings.Repeat("~", len(text))), 0); got != -1 {
			t.Errorf("%.60q: what it was changed to stands at %d", text, got)
		}
	}
}

func TestLinesAreNeitherChangedNorKept(t *testing.T) {
	for _, text := range texts() {
		x := made(t, text)
		line, whole := roomy("x"+text+text, text)
		first := answers(x, line)
		if string(whole) != "x"+text+text+text {
			t.Errorf("the line of %.60q was changed", text)
		}
		spoil(line)
		if got := x.Scan(line); len(got) != 0 {
			t.Errorf("%.60q: the line that was changed has %v", text, got)
		}
		if again := answers(x, []byte("x"+text+text)); again != first {
			t.Errorf("%.60q: first %s, then %s", text, first, again)
		}
	}
}

// Bytes behind a text or a line, in its memory, play no part, be they just those that the text asks for.
func TestWhatIsBehindPlaysNoPart(t *testing.T) {
	for _, text := range texts() {
		for n := 1; n <= min(len(text), 40); n++ {
			b, _ := roomy(text[:n], text[n:])
			x, _ := twoway.New(b)
			line, _ := roomy(text+"x"+text[:n-1], text[n-1:]+text)
			check(t, x, text[:n], string(line))
			if got, want := answers(x, line), answers(made(t, text[:n]), []byte(string(line))); got != want {
				t.Errorf("%.60q in %.60q: %s, not %s", b, line, got, want)
			}
		}
	}
}

func TestPiecesAreNewMemory(t *testing.T) {
	x, line := made(t, "aa"), []byte("aaaaa")
	one, other := x.Scan(line), x.Scan(line)
	want := slices.Clone(one)
	for i := range one {
		one[i] = api.Pair{Start: -7, End: -7}
	}
	one = append(one[:cap(one)], api.Pair{Start: -8, End: -8})
	if !slices.Equal(other, want) || !slices.Equal(x.Scan(line), want) {
		t.Errorf("%v changes with %v", other, one)
	}
}

// What was asked before plays no part: not another line, not another text, not a line that was left in its middle.
func TestSameCallsSameAnswers(t *testing.T) {
	var all []*twoway.Two
	for _, text := range texts() {
		all = append(all, made(t, text))
	}
	var first []string
	for range 3 {
		var now []string
		for i, text := range texts() {
			for _, line := range linesOf(text)[:20] {
				all[(i+1)%len(all)].Next([]byte(line), 0)
				now = append(now, answers(all[i], []byte(line)))
				all[i].Next([]byte(text+text), 1)
			}
		}
		if first == nil {
			first = now
		}
		if !slices.Equal(first, now) {
			t.Error("the answers aren't the same again")
		}
	}
}
