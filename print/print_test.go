package print_test

import (
	"bytes"
	"math"
	"math/big"
	"slices"
	"strconv"
	"strings"
	"testing"

	"seine/api"
	"seine/print"
)

// of is the list of pairs whose numbers stand one behind another.
func of(numbers ...int) []api.Pair {
	var l []api.Pair
	for i := 0; i+1 < len(numbers); i += 2 {
		l = append(l, api.Pair{Start: numbers[i], End: numbers[i+1]})
	}
	return l
}

// pairsOf are all pairs of some numbers: those that rise, empty ones, and those that fall.
func pairsOf(numbers []int) []api.Pair {
	var l []api.Pair
	for _, s := range numbers {
		for _, e := range numbers {
			l = append(l, api.Pair{Start: s, End: e})
		}
	}
	return l
}

// from are the numbers from low to high.
func from(low, high int) []int {
	var l []int
	for n := low; n <= high; n++ {
		l = append(l, n)
	}
	return l
}

// forLists hands over each list of at most most of some pairs, in each order, each as often as may be.
//
// It is the same memory from list to list, so whoever keeps one has to copy it.
func forLists(some []api.Pair, most int, f func(l []api.Pair)) {
	row := make([]api.Pair, 0, most)
	var longer func()
	longer = func() {
		f(row)
		if len(row) == most {
			return
		}
		for _, p := range some {
			row = append(row, p)
			longer()
			row = row[:len(row)-1]
		}
	}
	longer()
}

// draws tells numbers below wide, one after the other, by a rule that leaves them in no order.
func draws() func(wide int) int {
	x := uint32(2463534242)
	return func(wide int) int {
		x ^= x << 13
		x ^= x >> 17
		x ^= x << 5
		return int(x % uint32(wide))
	}
}

// mixed is a list of n pairs of numbers from low on, below low+wide, in no order.
func mixed(n, low, wide int) []api.Pair {
	draw := draws()
	l := make([]api.Pair, n)
	for i := range l {
		l[i] = api.Pair{Start: low + draw(wide), End: low + draw(wide)}
	}
	return l
}

// allBytes is a text of the 256 bytes.
func allBytes() []byte {
	text := make([]byte, 256)
	for i := range text {
		text[i] = byte(i)
	}
	return text
}

// texts are texts that may be mistaken for what is put around them, and others.
func texts() [][]byte {
	return [][]byte{
		nil, []byte("a"), []byte("abcd"), []byte(":"), []byte("\n"), []byte("\n\n"), []byte("\r\n"), []byte("12:ab"), []byte("a\n3:b\n"),
		[]byte("-1"), []byte("%d%s"), {0}, {0, 0}, {255}, []byte("\xc3\xa4\xff"), []byte(" \t "), allBytes(), bytes.Repeat([]byte("x\n:"), 5000),
	}
}

// farNumbers are numbers around 0, the ends of an int, and some beyond 32 bits.
func farNumbers() []int {
	return []int{
		math.MinInt, math.MinInt + 1, math.MinInt + 5, -1 << 32, math.MinInt32, -10, -9, -2, -1, 0, 1, 2, 9, 10,
		math.MaxInt32, 1 << 32, 1<<32 + 1, math.MaxInt - 5, math.MaxInt - 1, math.MaxInt,
	}
}

// emptyLists are the empty list, nil and not nil, with room behind it and without.
func emptyLists() [][]api.Pair {
	full := of(0, 1, 1, 3)
	return [][]api.Pair{nil, {}, make([]api.Pair, 0, 9), full[:0], full[1:1], full[2:]}
}

// emptyTexts are the empty text, likewise.
func emptyTexts() [][]byte {
	full := []byte("abc")
	return [][]byte{nil, {}, make([]byte, 0, 9), full[:0], full[1:1], full[3:]}
}

// number is P24.1's Number: digit by digit, from the last one on.
func number(n int) string {
	left := uint64(n)
	if n < 0 {
		left = -left
	}
	digits := ""
	for digits == "" || left > 0 {
		digits = string("0123456789"[left%10]) + digits
		left /= 10
	}
	if n < 0 {
		return "-" + digits
	}
	return digits
}

// line is P24.2's Line.
func line(off int, text string, where bool) string {
	if where {
		return number(off) + ":" + text + "\n"
	}
	return text + "\n"
}

// sum is two numbers added up, their rest by 2^64, in numbers of any size.
func sum(a, b int) int {
	all := new(big.Int).Lsh(big.NewInt(1), 64)
	s := new(big.Int).Add(big.NewInt(int64(a)), big.NewInt(int64(b)))
	if !s.IsInt64() {
		s.Sub(s, all)
	}
	return int(s.Int64())
}

// pieces is P24.2's Pieces, by looking each pair up among all pieces of the text.
func pieces(off int, text string, l []api.Pair, where bool) string {
	var out strings.Builder
	for _, p := range l {
		if p.Start < 0 || p.Start > len(text) {
			continue
		}
		for e := p.Start; e <= len(text); e++ {
			if e == p.End {
				out.WriteString(line(sum(off, p.Start), text[p.Start:e], where))
			}
		}
	}
	return out.String()
}

// checkNumber holds Number and Count against the words.
func checkNumber(t *testing.T, n int) {
	t.Helper()
	if got, want := string(print.Number(n)), number(n); got != want {
		t.Fatalf("Number(%d) is %q, not %q", n, got, want)
	}
	if got, want := string(print.Count(n)), number(n)+"\n"; got != want {
		t.Fatalf("Count(%d) is %q, not %q", n, got, want)
	}
}

// checkLine holds Line against the words, with where and without.
func checkLine(t *testing.T, off int, text []byte) {
	t.Helper()
	for _, where := range []bool{false, true} {
		if got, want := string(print.Line(off, text, where)), line(off, string(text), where); got != want {
			t.Fatalf("Line(%d, %.60q, %t) is %.90q, not %.90q", off, text, where, got, want)
		}
	}
}

// checkPieces holds Pieces against the words, with where and without.
func checkPieces(t *testing.T, off int, text []byte, l []api.Pair) {
	t.Helper()
	for _, where := range []bool{false, true} {
		if got, want := string(print.Pieces(off, text, l, where)), pieces(off, string(text), l, where); got != want {
			t.Fatalf("Pieces(%d, %.60q, %.200d, %t) is %.90q, not %.90q", off, text, l, where, got, want)
		}
	}
}

// P24.1

func TestNumberByHand(t *testing.T) {
	for _, x := range []struct {
		n    int
		want string
	}{
		{0, "0"}, {1, "1"}, {2, "2"}, {3, "3"}, {4, "4"}, {5, "5"}, {6, "6"}, {7, "7"}, {8, "8"}, {9, "9"},
		{10, "10"}, {11, "11"}, {99, "99"}, {100, "100"}, {101, "101"}, {200, "200"}, {999, "999"}, {1000, "1000"}, {1001, "1001"},
		{-1, "-1"}, {-9, "-9"}, {-10, "-10"}, {-11, "-11"}, {-99, "-99"}, {-100, "-100"}, {-101, "-101"}, {-1000, "-1000"},
		{1234567890, "1234567890"}, {-9876543210, "-9876543210"}, {1020304050, "1020304050"},
		{math.MaxInt32, "2147483647"}, {math.MaxInt32 + 1, "2147483648"}, {math.MinInt32, "-2147483648"}, {math.MinInt32 - 1, "-2147483649"},
		{math.MaxUint32, "4294967295"}, {1 << 32, "4294967296"}, {-1 << 32, "-4294967296"},
		{math.MaxInt, "9223372036854775807"}, {math.MaxInt - 1, "9223372036854775806"},
		{math.MinInt, "-9223372036854775808"}, {math.MinInt + 1, "-9223372036854775807"},
		{1000000000000000000, "1000000000000000000"}, {999999999999999999, "999999999999999999"},
		{-1000000000000000000, "-1000000000000000000"}, {-999999999999999999, "-999999999999999999"},
	} {
		if got := string(print.Number(x.n)); got != x.want {
			t.Errorf("Number(%d) is %q, not %q", x.n, got, x.want)
		}
		if got := string(print.Count(x.n)); got != x.want+"\n" {
			t.Errorf("Count(%d) is %q, not %q and a newline", x.n, got, x.want)
		}
		checkNumber(t, x.n)
	}
}

// TestNumberOfPowers has each power of 10 that an int has, and of 2, and those next to it, above 0 and below.
func TestNumberOfPowers(t *testing.T) {
	for _, base := range []int{2, 10} {
		for power := 1; ; power *= base {
			for _, n := range []int{power - 1, power, power + 1, 1 - power, -power, -1 - power} {
				checkNumber(t, n)
			}
			if power > math.MaxInt/base {
				break
			}
		}
	}
}

func TestNumberOfAllSmallOnes(t *testing.T) {
	for n := -11000; n <= 11000; n++ {
		checkNumber(t, n)
	}
	for n := range 200 {
		checkNumber(t, math.MinInt+n)
		checkNumber(t, math.MaxInt-n)
	}
}

// TestNumberIsOfTheWords holds it against the words alone: digits, no needless nought, a sign of those below 0 alone, and n's worth.
func TestNumberIsOfTheWords(t *testing.T) {
	draw := draws()
	some := farNumbers()
	for range 2000 {
		n := draw(1<<31)<<33 ^ draw(1<<31)<<7 ^ draw(1<<31)
		some = append(some, n, n>>draw(60))
	}
	for _, n := range some {
		digits, below := strings.CutPrefix(string(print.Number(n)), "-")
		if below != (n < 0) {
			t.Fatalf("Number(%d) is %q", n, print.Number(n))
		}
		if digits == "" || strings.Trim(digits, "0123456789") != "" || digits != "0" && digits[0] == '0' {
			t.Fatalf("Number(%d) has the digits %q", n, digits)
		}
		worth := new(big.Int)
		for _, d := range digits {
			worth.Mul(worth, big.NewInt(10)).Add(worth, big.NewInt(int64(d-'0')))
		}
		if below {
			worth.Neg(worth)
		}
		if worth.Cmp(big.NewInt(int64(n))) != 0 {
			t.Fatalf("Number(%d) is %q", n, print.Number(n))
		}
		if want := string(print.Number(n)) + "\n"; string(print.Count(n)) != want {
			t.Fatalf("Count(%d) is %q, not %q", n, print.Count(n), want)
		}
	}
}

// P24.2

func TestLineByHand(t *testing.T) {
	for _, x := range []struct {
		off   int
		text  string
		where bool
		want  string
	}{
		// The chapter's example.
		{12, "ab", true, "12:ab\n"},
		{12, "ab", false, "ab\n"},
		// The empty text.
		{0, "", true, "0:\n"},
		{0, "", false, "\n"},
		{7, "", true, "7:\n"},
		// Where it begins: 0, below 0, and the ends of an int.
		{0, "ab", true, "0:ab\n"},
		{-1, "ab", true, "-1:ab\n"},
		{-1, "ab", false, "ab\n"},
		{100, "ab", true, "100:ab\n"},
		{math.MaxInt, "ab", true, "9223372036854775807:ab\n"},
		{math.MinInt, "ab", true, "-9223372036854775808:ab\n"},
		{math.MaxInt, "ab", false, "ab\n"},
		{math.MinInt, "", false, "\n"},
		// Bytes that look like what is put around them stay, and nothing is put together.
		{3, ":", true, "3::\n"},
		{3, "\n", true, "3:\n\n"},
		{3, "\n", false, "\n\n"},
		{3, "a\n", false, "a\n\n"},
		{3, "\na", true, "3:\na\n"},
		{3, "a\nb", true, "3:a\nb\n"},
		{3, "3:a", true, "3:3:a\n"},
		{3, "3:a", false, "3:a\n"},
		{3, "4", true, "3:4\n"},
		{3, "-", true, "3:-\n"},
		{3, "\x00", true, "3:\x00\n"},
		{3, "\r", false, "\r\n"},
		{3, " a ", true, "3: a \n"},
		{3, "\xff\xfe", false, "\xff\xfe\n"},
		{3, "\xc3\xa4", true, "3:\xc3\xa4\n"},
	} {
		if got := string(print.Line(x.off, []byte(x.text), x.where)); got != x.want {
			t.Errorf("Line(%d, %q, %t) is %q, not %q", x.off, x.text, x.where, got, x.want)
		}
	}
}

func TestLineOfTexts(t *testing.T) {
	for _, text := range texts() {
		for _, off := range farNumbers() {
			checkLine(t, off, text)
		}
	}
}

// TestLineOfEachByte has it alone, and ahead of others, behind them and between.
func TestLineOfEachByte(t *testing.T) {
	for c := range 256 {
		b := byte(c)
		for _, text := range [][]byte{{b}, {b, b}, {b, 'x', 'y'}, {'x', b, 'y'}, {'x', 'y', b}} {
			checkLine(t, c-100, text)
		}
	}
}

func TestLineOfLongTexts(t *testing.T) {
	for _, n := range []int{399, 400, 401, 1024, 1 << 16, 1 << 20} {
		checkLine(t, n, bytes.Repeat([]byte{'z'}, n))
	}
}

func TestPiecesByHand(t *testing.T) {
	for _, x := range []struct {
		off   int
		text  string
		l     []api.Pair
		where bool
		want  string
	}{
		// The chapter's example.
		{12, "abc", of(1, 2, 0, 3), true, "13:b\n12:abc\n"},
		{12, "abc", of(1, 2, 0, 3), false, "b\nabc\n"},
		// Nothing, and nothing but pairs that are no pieces.
		{0, "abc", nil, true, ""},
		{0, "", nil, false, ""},
		{0, "", of(0, 1), true, ""},
		{0, "", of(1, 1), true, ""},
		{0, "", of(-1, 0), true, ""},
		{0, "abc", of(-1, 0), true, ""},
		{0, "abc", of(-1, 2), true, ""},
		{0, "abc", of(-1, -1), true, ""},
		{0, "abc", of(-3, 3), true, ""},
		{0, "abc", of(2, 1), true, ""},
		{0, "abc", of(1, 0), true, ""},
		{0, "abc", of(3, 0), true, ""},
		{0, "abc", of(1, -1), true, ""},
		{0, "abc", of(3, 4), true, ""},
		{0, "abc", of(0, 4), true, ""},
		{0, "abc", of(4, 4), true, ""},
		{0, "abc", of(4, 3), true, ""},
		{0, "abc", of(5, 9), true, ""},
		{0, "abc", of(math.MinInt, math.MaxInt), true, ""},
		{0, "abc", of(math.MaxInt, math.MinInt), true, ""},
		{0, "abc", of(math.MinInt, math.MinInt), true, ""},
		{0, "abc", of(math.MaxInt, math.MaxInt), true, ""},
		{0, "abc", of(0, math.MaxInt), true, ""},
		{0, "abc", of(0, math.MinInt), true, ""},
		{0, "abc", of(math.MinInt, 2), true, ""},
		{0, "abc", of(math.MaxInt, 2), true, ""},
		{0, "abc", of(1<<32, 1<<32+1), true, ""},
		{0, "abc", of(0, 1<<32+1), true, ""},
		{0, "abc", of(-1<<32, 1), true, ""},
		// They are left out beside others, ahead of them in the list and behind.
		{0, "abc", of(-1, 2, 1, 2, 2, 1, 2, 3, 2, 4), true, "1:b\n2:c\n"},
		{0, "abc", of(0, 4, 0, 1), false, "a\n"},
		{0, "abc", of(0, 1, 0, 4), false, "a\n"},
		// The empty piece at the front, inside and at the end, and of the empty text.
		{5, "abc", of(0, 0), true, "5:\n"},
		{5, "abc", of(1, 1), true, "6:\n"},
		{5, "abc", of(3, 3), true, "8:\n"},
		{5, "abc", of(0, 0, 1, 1, 2, 2, 3, 3), false, "\n\n\n\n"},
		{5, "", of(0, 0), true, "5:\n"},
		{5, "", of(0, 0), false, "\n"},
		// The whole text, and its ends.
		{0, "abc", of(0, 3), true, "0:abc\n"},
		{0, "abc", of(0, 1, 2, 3), true, "0:a\n2:c\n"},
		{0, "a", of(0, 1), false, "a\n"},
		// In the list's order, each as often as it is there, within one another too.
		{0, "abc", of(2, 3, 1, 2, 0, 1), true, "2:c\n1:b\n0:a\n"},
		{0, "abc", of(1, 2, 1, 2, 1, 2), true, "1:b\n1:b\n1:b\n"},
		{0, "abc", of(1, 2, 0, 1, 1, 2), false, "b\na\nb\n"},
		{0, "abc", of(0, 3, 1, 2, 1, 3), true, "0:abc\n1:b\n1:bc\n"},
		// Pieces with newlines and colons.
		{0, "a\n:b", of(1, 2, 2, 3, 0, 4), true, "1:\n\n2::\n0:a\n:b\n"},
		{0, "a\n:b", of(0, 2), false, "a\n\n"},
		// Where it begins: below 0, over 0, and beyond 32 bits.
		{-2, "abc", of(0, 1, 1, 2, 2, 3, 3, 3), true, "-2:a\n-1:b\n0:c\n1:\n"},
		{math.MaxInt32, "abc", of(0, 1, 1, 2), true, "2147483647:a\n2147483648:b\n"},
		{-1, "abc", of(1, 1), true, "0:\n"},
		{9, "abc", of(0, 1, 1, 2), true, "9:a\n10:b\n"},
		{math.MinInt, "abc", of(0, 1, 2, 3), true, "-9223372036854775808:a\n-9223372036854775806:c\n"},
		// Sums up to the greatest int, and above.
		{math.MaxInt - 3, "abc", of(3, 3), true, "9223372036854775807:\n"},
		{math.MaxInt - 1, "abc", of(1, 2, 2, 3, 3, 3), true, "9223372036854775807:b\n-9223372036854775808:c\n-9223372036854775807:\n"},
		{math.MaxInt, "abc", of(0, 1, 1, 3, 2, 3), true, "9223372036854775807:a\n-9223372036854775808:bc\n-9223372036854775807:c\n"},
		{math.MaxInt, "abc", of(0, 1, 1, 3, 2, 3), false, "a\nbc\nc\n"},
	} {
		if got := string(print.Pieces(x.off, []byte(x.text), x.l, x.where)); got != x.want {
			t.Errorf("Pieces(%d, %q, %d, %t) is %q, not %q", x.off, x.text, x.l, x.where, got, x.want)
		}
		checkPieces(t, x.off, []byte(x.text), x.l)
	}
}

func TestPiecesOfAllShortLists(t *testing.T) {
	for _, text := range []string{"", "a", "\n:", "abc"} {
		forLists(pairsOf(from(-1, len(text)+1)), 2, func(l []api.Pair) {
			for _, off := range []int{-1, 0, 8, math.MaxInt - 1} {
				checkPieces(t, off, []byte(text), l)
			}
		})
	}
	forLists(pairsOf(from(0, 2)), 4, func(l []api.Pair) {
		checkPieces(t, 9, []byte("xy"), l)
	})
}

// TestPiecesOfAllFarPairs has them alone, and around one that is a piece.
func TestPiecesOfAllFarPairs(t *testing.T) {
	for _, text := range [][]byte{nil, []byte("a"), []byte("abcdefghijkl")} {
		for _, p := range pairsOf(farNumbers()) {
			for _, off := range []int{0, math.MinInt, math.MaxInt} {
				checkPieces(t, off, text, []api.Pair{p})
				checkPieces(t, off, text, []api.Pair{{Start: 0, End: 0}, p, {Start: 0, End: 0}})
			}
		}
	}
}

// TestPiecesOfAllPlaces has each piece of a text from each place that is far, so that sums come up to the ends of an int.
func TestPiecesOfAllPlaces(t *testing.T) {
	text := []byte("a:b\nc12")
	all := pairsOf(from(-2, len(text)+2))
	for _, off := range farNumbers() {
		checkPieces(t, off, text, all)
	}
	for n := range 2 * len(text) {
		checkPieces(t, math.MaxInt-n, text, all)
		checkPieces(t, math.MinInt+n, text, all)
		checkPieces(t, -n, text, all)
	}
}

func TestPiecesOfTexts(t *testing.T) {
	for _, text := range texts() {
		n := len(text)
		checkPieces(t, 40, text, of(0, n, 0, n/2, n/2, n, n, n, 0, 0, 0, n+1, n+1, n+1, n, n-1, -1, n))
	}
	text := allBytes()
	for c := range text {
		checkPieces(t, 0, text, of(c, c+1))
	}
}

func TestPiecesOfLongLists(t *testing.T) {
	text := bytes.Repeat([]byte("ab\n:c"), 80)
	for _, n := range []int{20, 500, 4000} {
		checkPieces(t, 1<<40, text, mixed(n, -20, len(text)+40))
	}
}

// TestPiecesAreLines holds Pieces against Line.
func TestPiecesAreLines(t *testing.T) {
	text := []byte("abc:\nd")
	for _, where := range []bool{false, true} {
		for _, off := range []int{-4, 0, 12} {
			for _, p := range pairsOf(from(0, len(text))) {
				want := ""
				if p.Start <= p.End {
					want = string(print.Line(off+p.Start, text[p.Start:p.End], where))
				}
				if got := string(print.Pieces(off, text, []api.Pair{p}, where)); got != want {
					t.Fatalf("Pieces(%d, %q, %d, %t) is %q, the line %q", off, text, p, where, got, want)
				}
			}
		}
	}
}

// P24.3

// checkParts holds Pieces of lists, one behind the other, against those of each, one behind the other.
func checkParts(t *testing.T, off int, text []byte, lists ...[]api.Pair) {
	t.Helper()
	for _, where := range []bool{false, true} {
		var want []byte
		for _, l := range lists {
			want = append(want, print.Pieces(off, text, l, where)...)
		}
		if got := print.Pieces(off, text, slices.Concat(lists...), where); !bytes.Equal(got, want) {
			t.Fatalf("Pieces(%d, %.60q, ..., %t) of the lists %.200d is %.90q, those of each %.90q", off, text, where, lists, got, want)
		}
	}
}

func TestPiecesOfTwoLists(t *testing.T) {
	text := []byte("a\nb")
	some := of(0, 3, 1, 2, 2, 2, 0, 1, -1, 1, 2, 1, 2, 4)
	forLists(some, 4, func(l []api.Pair) {
		for i := range len(l) + 1 {
			checkParts(t, 9, text, l[:i], l[i:])
		}
	})
	forLists(some, 2, func(l []api.Pair) {
		one := slices.Clone(l)
		checkParts(t, math.MaxInt, text, one, one)
		for _, empty := range emptyLists() {
			checkParts(t, 0, text, one, empty)
			checkParts(t, 0, text, empty, one)
			checkParts(t, 0, text, empty, one, empty, one)
		}
	})
	long := mixed(600, -3, 30)
	for _, i := range []int{0, 1, 7, 300, 599, 600} {
		checkParts(t, math.MaxInt-10, allBytes()[:25], long[:i], long[i:])
	}
	checkParts(t, 3, text, long[:5], long[5:5], long[5:90], long[90:])
}

// DOC.md, rules 3 and 4

// calls are all that a text and a list can be handed to.
func calls(text []byte, l []api.Pair) []func() []byte {
	return []func() []byte{
		func() []byte { return print.Line(4, text, false) },
		func() []byte { return print.Line(-12, text, true) },
		func() []byte { return print.Pieces(4, text, l, false) },
		func() []byte { return print.Pieces(-12, text, l, true) },
	}
}

// TestWhatIsHandedInIsNotChanged has texts and lists with room behind them, which isn't changed either.
func TestWhatIsHandedInIsNotChanged(t *testing.T) {
	for _, text := range texts() {
		n := len(text)
		for _, l := range [][]api.Pair{nil, of(0, n), of(n, n, 0, n, 0, 0, n, 0, -1, n, 0, n+1, n/2, n, n/2, n), mixed(60, -2, n+4)} {
			wide := append(slices.Clone(text), "012345678901234567890"...)
			room := append(slices.Clone(l), of(70, 71, -3, 90, 1, 1)...)
			wideWas, roomWas := slices.Clone(wide), slices.Clone(room)
			for i, ask := range calls(wide[:n], room[:len(l)]) {
				ask()
				if !bytes.Equal(wide, wideWas) || !slices.Equal(room, roomWas) {
					t.Fatalf("by call %d, %.60q became %.60q, or %.200d %.200d", i, wideWas, wide, roomWas, room)
				}
			}
		}
	}
}

// TestAnswersAreNewMemory has answers changed, and what was handed in.
func TestAnswersAreNewMemory(t *testing.T) {
	for _, whole := range []string{"a", "abcd", "12:\n", strings.Repeat("long", 100)} {
		text := []byte(whole)
		list := of(0, len(text), 0, 1, len(text), len(text), 0, 0)
		some := calls(text, list)
		for _, n := range []int{0, 7, 42, 100, -1, math.MaxInt, math.MinInt} {
			some = append(some,
				func() []byte { return print.Number(n) },
				func() []byte { return print.Count(n) },
				func() []byte { return print.Line(n, nil, true) },
				func() []byte { return print.Line(n, nil, false) },
			)
		}
		for i, ask := range some {
			kept, got := ask(), ask()
			was := slices.Clone(kept)
			if len(got) == 0 {
				t.Fatalf("call %d tells nothing", i)
			}
			for at := range got {
				got[at] ^= 0x55
			}
			for range cap(got) + 1 {
				got = append(got, '?')
			}
			if string(text) != whole {
				t.Fatalf("a change of what call %d tells changed the text to %q", i, text)
			}
			if !bytes.Equal(kept, was) || !bytes.Equal(ask(), was) {
				t.Fatalf("a change of what call %d tells changed what it tells elsewhere", i)
			}
			for at := range text {
				text[at] = '!'
			}
			if !bytes.Equal(kept, was) {
				t.Fatalf("a change of what was handed in changed what call %d tells", i)
			}
			copy(text, whole)
		}
	}
}

// TestSameCallsHaveTheSameAnswers has other calls between.
func TestSameCallsHaveTheSameAnswers(t *testing.T) {
	for range 3 {
		for _, off := range farNumbers() {
			checkNumber(t, off)
			for _, text := range []string{"", "abc", "\n", strconv.Itoa(off)} {
				checkLine(t, off, []byte(text))
				checkPieces(t, off, []byte(text), of(0, 3, 0, 0, 1, 2, 2, 1))
			}
		}
	}
}

// TestNilAndEmptyAreOne has them handed in with the same answers, from each empty text and list there is.
func TestNilAndEmptyAreOne(t *testing.T) {
	for _, text := range emptyTexts() {
		checkLine(t, 31, text)
		checkPieces(t, 31, text, of(0, 0, 0, 1, 1, 1, 0, 0))
		for _, l := range emptyLists() {
			for _, where := range []bool{false, true} {
				if got := print.Pieces(31, text, l, where); len(got) != 0 {
					t.Errorf("Pieces of an empty text and an empty list is %q", got)
				}
				if got := print.Pieces(31, []byte("abc"), l, where); len(got) != 0 {
					t.Errorf("Pieces of an empty list is %q", got)
				}
			}
		}
	}
}
