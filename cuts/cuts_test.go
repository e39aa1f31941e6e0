package cuts_test

import (
	"bytes"
	"fmt"
	"math"
	"slices"
	"strings"
	"testing"

	"seine/api"
	"seine/cuts"
)

// none is an empty list, which is no nil one.
var none = []int{}

// shown is pieces as one text in which no two lists of pieces look alike.
func shown(pieces [][]byte) string { return fmt.Sprintf("%q", pieces) }

// listsOf are all lists of at most most things, of some.
func listsOf[T any](some []T, most int) [][]T {
	all := [][]T{nil}
	longest := all
	for range most {
		var longer [][]T
		for _, l := range longest {
			for _, x := range some {
				longer = append(longer, append(slices.Clone(l), x))
			}
		}
		all = append(all, longer...)
		longest = longer
	}
	return all
}

// around are numbers around those from 0 to n, and far from them.
func around(n int) []int {
	l := []int{math.MinInt, math.MinInt + 1, math.MinInt32, -7, -1}
	for c := range n + 3 {
		l = append(l, c)
	}
	return append(l, 1000, math.MaxInt32, 1<<32, 1<<32+1, math.MaxInt-1, math.MaxInt)
}

// fewAround are the numbers around those from 0 to n that tell edges apart: few, so that long lists of them can all be tried.
func fewAround(n int) []int {
	l := []int{math.MinInt, -1}
	for c := range n + 2 {
		l = append(l, c)
	}
	return append(l, math.MaxInt)
}

// someText is n bytes, none of which is one of the next 255.
func someText(n int) []byte {
	b := make([]byte, n)
	for i := range b {
		b[i] = byte(255 + i)
	}
	return b
}

// places is P19.1, by bounds: what a place may not be below is the greatest of 0 and the cuts up to its own, as far as they are no more than n.
func places(n int, l []int) []int {
	var p []int
	for i := range l {
		below := 0
		for _, c := range l[:i+1] {
			switch {
			case c >= n:
				below = max(n, 0)
			case c > below:
				below = c
			}
		}
		p = append(p, below)
	}
	return p
}

// pieces is P19.2, byte by byte: each one is of the piece of which as many places stand ahead, or at it.
func pieces(t []byte, l []int) [][]byte {
	all := make([][]byte, len(l)+1)
	at := places(len(t), l)
	for i, c := range t {
		k := 0
		for _, p := range at {
			if p <= i {
				k++
			}
		}
		all[k] = append(all[k], c)
	}
	return all
}

// each is P19.3, byte by byte: each one is of the piece that its place, divided by n, tells.
func each(t []byte, n int) [][]byte {
	var all [][]byte
	for i, c := range t {
		k := 0
		if n > 0 {
			k = i / n
		}
		if k == len(all) {
			all = append(all, nil)
		}
		all[k] = append(all[k], c)
	}
	return all
}

// checkPlaces holds Places against the words.
func checkPlaces(t *testing.T, n int, l []int) {
	t.Helper()
	if got, want := cuts.Places(n, l...), places(n, l); !slices.Equal(got, want) {
		t.Fatalf("Places(%d, %d) is %d, not %d", n, l, got, want)
	}
}

// checkPieces holds Pieces against the words, and its pieces, one behind the other, against the text.
func checkPieces(t *testing.T, text []byte, l []int) {
	t.Helper()
	got := cuts.Pieces(text, l...)
	if want := pieces(text, l); shown(got) != shown(want) {
		t.Fatalf("Pieces(%.60q, %d) is %.200s, not %.200s", text, l, shown(got), shown(want))
	}
	if !bytes.Equal(slices.Concat(got...), text) {
		t.Fatalf("Pieces(%.60q, %d) is %.200s: that is another text", text, l, shown(got))
	}
}

// checkEach holds Each against the words, and its pieces, one behind the other, against the text.
func checkEach(t *testing.T, text []byte, n int) {
	t.Helper()
	got := cuts.Each(text, n)
	if want := each(text, n); shown(got) != shown(want) {
		t.Fatalf("Each(%.60q, %d) is %.200s, not %.200s", text, n, shown(got), shown(want))
	}
	if !bytes.Equal(slices.Concat(got...), text) {
		t.Fatalf("Each(%.60q, %d) is %.200s: that is another text", text, n, shown(got))
	}
}

// P19.1

func TestPlacesByHand(t *testing.T) {
	const least, most = math.MinInt, math.MaxInt
	for _, x := range []struct {
		n          int
		cuts, want []int
	}{
		// No cuts: no places.
		{5, nil, nil},
		{5, none, nil},
		{0, nil, nil},
		{-1, nil, nil},
		{least, nil, nil},
		{most, nil, nil},
		// One cut.
		{5, []int{3}, []int{3}},
		{5, []int{0}, []int{0}},
		{5, []int{1}, []int{1}},
		{5, []int{4}, []int{4}},
		{5, []int{5}, []int{5}},
		{5, []int{6}, []int{5}},
		{5, []int{-1}, []int{0}},
		{5, []int{least}, []int{0}},
		{5, []int{most}, []int{5}},
		// Cuts that rise, that fall, that are the same twice.
		{5, []int{1, 2, 4}, []int{1, 2, 4}},
		{5, []int{0, 1, 2, 3, 4, 5}, []int{0, 1, 2, 3, 4, 5}},
		{5, []int{4, 2, 1}, []int{4, 4, 4}},
		{5, []int{5, 4, 0}, []int{5, 5, 5}},
		{5, []int{2, 2}, []int{2, 2}},
		{5, []int{0, 0, 5, 5}, []int{0, 0, 5, 5}},
		{5, []int{1, 4, 2, 5, 3}, []int{1, 4, 4, 5, 5}},
		// A cut is held against the place ahead of it, not against the cut.
		{5, []int{9, 7}, []int{5, 5}},
		{5, []int{-9, -7, 1}, []int{0, 0, 1}},
		{5, []int{-9, 0, -1}, []int{0, 0, 0}},
		{5, []int{3, 1, 2}, []int{3, 3, 3}},
		{5, []int{3, 1, 4}, []int{3, 3, 4}},
		// Far below and far above.
		{5, []int{least, 2, most, 2, least}, []int{0, 2, 5, 5, 5}},
		{5, []int{most, least}, []int{5, 5}},
		{5, []int{least, most}, []int{0, 5}},
		{5, []int{least + 1, most - 1}, []int{0, 5}},
		{5, []int{1 << 32, 1}, []int{5, 5}},
		{5, []int{1<<32 + 1}, []int{5}},
		{5, []int{-1 << 32, -1<<32 + 3}, []int{0, 0}},
		// n of 1, 0, and below 0, which counts as 0.
		{1, []int{0, 1, 2}, []int{0, 1, 1}},
		{1, []int{1, 0}, []int{1, 1}},
		{0, []int{0}, []int{0}},
		{0, []int{1}, []int{0}},
		{0, []int{-1}, []int{0}},
		{0, []int{most, least, 3}, []int{0, 0, 0}},
		{-1, []int{-1}, []int{0}},
		{-1, []int{0, 1, -2}, []int{0, 0, 0}},
		{-5, []int{3, -1}, []int{0, 0}},
		{-5, []int{-5, -6, -4}, []int{0, 0, 0}},
		{least, []int{least}, []int{0}},
		{least, []int{most, 0, least, 7}, []int{0, 0, 0, 0}},
		{least + 1, []int{least, most}, []int{0, 0}},
		// n as great as there is.
		{most, []int{least, 3, most - 1, most}, []int{0, 3, most - 1, most}},
		{most, []int{most, most - 1, 0}, []int{most, most, most}},
		{most - 1, []int{most}, []int{most - 1}},
		{1 << 32, []int{1 << 31, 1<<32 - 1, 1<<32 + 1}, []int{1 << 31, 1<<32 - 1, 1 << 32}},
	} {
		if got := cuts.Places(x.n, x.cuts...); !slices.Equal(got, x.want) {
			t.Errorf("Places(%d, %d) is %d, not %d", x.n, x.cuts, got, x.want)
		}
		checkPlaces(t, x.n, x.cuts)
	}
	// Cuts one by one, not as a list.
	if got := cuts.Places(5, 3, 1, 9); !slices.Equal(got, []int{3, 3, 5}) {
		t.Errorf("Places(5, 3, 1, 9) is %d", got)
	}
}

func TestPlacesOfOneAndTwoCuts(t *testing.T) {
	for _, n := range append(around(9), 255, 256) {
		for _, l := range listsOf(append(around(12), n), 2) {
			checkPlaces(t, n, l)
		}
	}
}

func TestPlacesOfAllShortLists(t *testing.T) {
	for _, n := range []int{math.MinInt, -1, 0, 1, 2, 3, 4} {
		for _, l := range listsOf(fewAround(max(n, 0)), 4) {
			checkPlaces(t, n, l)
		}
	}
	for _, l := range listsOf([]int{math.MinInt, 0, 3, math.MaxInt - 1, math.MaxInt}, 4) {
		checkPlaces(t, math.MaxInt, l)
		checkPlaces(t, math.MaxInt-1, l)
	}
}

// TestPlacesAreInOrder holds what follows from P19.1: as many as there are cuts, none falls, none is below 0 or above n.
func TestPlacesAreInOrder(t *testing.T) {
	for _, n := range []int{-3, 0, 1, 7, 100} {
		for seed := range uint32(200) {
			l := someCuts(seed, int(seed%40), max(n, 0))
			got := cuts.Places(n, l...)
			if len(got) != len(l) {
				t.Fatalf("Places(%d, %d) is %d", n, l, got)
			}
			if !slices.IsSorted(got) || len(got) > 0 && (got[0] < 0 || got[len(got)-1] > max(n, 0)) {
				t.Fatalf("Places(%d, %d) is %d", n, l, got)
			}
		}
	}
}

func TestPlacesOfPlaces(t *testing.T) {
	for _, n := range []int{-1, 0, 1, 4} {
		for _, l := range listsOf(fewAround(4), 3) {
			once := cuts.Places(n, l...)
			if twice := cuts.Places(n, once...); !slices.Equal(once, twice) {
				t.Fatalf("Places(%d, %d) is %d, and of these %d", n, l, once, twice)
			}
		}
	}
}

// someCuts are cuts around those from 0 to n, as a fixed rule that doesn't soon come round says: some rise for a while, some jump.
func someCuts(seed uint32, many, n int) []int {
	var l []int
	at := 0
	for range many {
		seed = seed*1664525 + 1013904223
		k := int(seed >> 8)
		switch k % 5 {
		case 0:
			at = k/5%(3*n+9) - n - 3
		case 1:
			at -= k / 5 % 3
		default:
			at += k / 5 % 4
		}
		l = append(l, at)
	}
	return l
}

func TestPlacesOfManyCuts(t *testing.T) {
	for _, n := range []int{-9, 0, 1, 5, 100, 1000} {
		for seed := range uint32(10) {
			for _, many := range []int{5, 50, api.MaxCuts} {
				checkPlaces(t, n, someCuts(seed, many, max(n, 0)))
			}
		}
	}
	var rising, falling, same []int
	for i := range 1 << 12 {
		rising = append(rising, i-100)
		falling = append(falling, 5000-i)
		same = append(same, 77)
	}
	for _, l := range [][]int{rising, falling, same} {
		checkPlaces(t, 3000, l)
	}
}

// P19.2

func TestPiecesByHand(t *testing.T) {
	const least, most = math.MinInt, math.MaxInt
	for _, x := range []struct {
		text string
		cuts []int
		want []string
	}{
		// The chapter's example.
		{"abcde", []int{3, 1, 9}, []string{"abc", "", "de", ""}},
		// No cuts: one piece, which is all of the text.
		{"abcde", nil, []string{"abcde"}},
		{"abcde", none, []string{"abcde"}},
		{"a", nil, []string{"a"}},
		{"", nil, []string{""}},
		// One cut: at the front, in the middle, at the end, below and above.
		{"abcde", []int{0}, []string{"", "abcde"}},
		{"abcde", []int{1}, []string{"a", "bcde"}},
		{"abcde", []int{2}, []string{"ab", "cde"}},
		{"abcde", []int{4}, []string{"abcd", "e"}},
		{"abcde", []int{5}, []string{"abcde", ""}},
		{"abcde", []int{6}, []string{"abcde", ""}},
		{"abcde", []int{-1}, []string{"", "abcde"}},
		{"abcde", []int{least}, []string{"", "abcde"}},
		{"abcde", []int{most}, []string{"abcde", ""}},
		// Cuts that rise.
		{"abcdef", []int{2, 4}, []string{"ab", "cd", "ef"}},
		{"abcde", []int{1, 2, 3, 4}, []string{"a", "b", "c", "d", "e"}},
		{"abcde", []int{0, 1, 2, 3, 4, 5}, []string{"", "a", "b", "c", "d", "e", ""}},
		// Cuts that fall, that are the same twice.
		{"abcde", []int{4, 2}, []string{"abcd", "", "e"}},
		{"abcde", []int{4, 3, 2, 1, 0}, []string{"abcd", "", "", "", "", "e"}},
		{"abcde", []int{2, 2}, []string{"ab", "", "cde"}},
		{"abcde", []int{2, 2, 2, 3, 3}, []string{"ab", "", "", "c", "", "de"}},
		// Empty pieces at the front, in the middle, at the end.
		{"abcdef", []int{-3, 4, 1, 99, 2}, []string{"", "abcd", "", "ef", "", ""}},
		{"abc", []int{0, 0}, []string{"", "", "abc"}},
		{"abc", []int{1, 1}, []string{"a", "", "bc"}},
		{"abc", []int{3, 3}, []string{"abc", "", ""}},
		{"abc", []int{0, 3}, []string{"", "abc", ""}},
		{"abc", []int{most, most}, []string{"abc", "", ""}},
		{"abc", []int{least, most, least}, []string{"", "abc", "", ""}},
		{"abc", []int{least, 1, most}, []string{"", "a", "bc", ""}},
		{"abc", []int{1 << 32, 1<<32 + 1}, []string{"abc", "", ""}},
		// Texts of one byte, and of none.
		{"a", []int{0, 1}, []string{"", "a", ""}},
		{"a", []int{1, 0}, []string{"a", "", ""}},
		{"a", []int{0}, []string{"", "a"}},
		{"a", []int{2}, []string{"a", ""}},
		{"", []int{0}, []string{"", ""}},
		{"", []int{1}, []string{"", ""}},
		{"", []int{-1, most, least}, []string{"", "", "", ""}},
		// Whatever the bytes are.
		{"\x00\xff", []int{1}, []string{"\x00", "\xff"}},
		{"\x00", []int{1}, []string{"\x00", ""}},
		{"\xff\xff\x00", []int{2, 2}, []string{"\xff\xff", "", "\x00"}},
		{"a\n\nb\n", []int{1, 2, 5}, []string{"a", "\n", "\nb\n", ""}},
		{"é", []int{1}, []string{"\xc3", "\xa9"}},
	} {
		var want [][]byte
		for _, p := range x.want {
			want = append(want, []byte(p))
		}
		if got := cuts.Pieces([]byte(x.text), x.cuts...); shown(got) != shown(want) {
			t.Errorf("Pieces(%q, %d) is %s, not %s", x.text, x.cuts, shown(got), shown(want))
		}
		checkPieces(t, []byte(x.text), x.cuts)
	}
	// Cuts one by one, not as a list.
	if got := cuts.Pieces([]byte("abcde"), 3, 1, 9); shown(got) != `["abc" "" "de" ""]` {
		t.Errorf("Pieces(abcde, 3, 1, 9) is %s", shown(got))
	}
}

func TestPiecesOfNil(t *testing.T) {
	for _, text := range [][]byte{nil, {}, make([]byte, 0, 9), []byte("abc")[:0], []byte("abc")[3:]} {
		for _, l := range listsOf([]int{math.MinInt, -1, 0, 1, math.MaxInt}, 3) {
			got := cuts.Pieces(text, l...)
			if len(got) != len(l)+1 {
				t.Fatalf("Pieces(nil, %d) is %s", l, shown(got))
			}
			for _, p := range got {
				if len(p) > 0 {
					t.Fatalf("Pieces(nil, %d) is %s", l, shown(got))
				}
			}
		}
	}
}

func TestPiecesOfOneAndTwoCuts(t *testing.T) {
	for n := range 10 {
		for _, l := range listsOf(around(n), 2) {
			checkPieces(t, someText(n), l)
		}
	}
}

func TestPiecesOfAllShortLists(t *testing.T) {
	for n := range 5 {
		for _, l := range listsOf(fewAround(n), 4) {
			checkPieces(t, someText(n), l)
		}
	}
}

func TestPiecesOfAllShortTexts(t *testing.T) {
	for _, text := range listsOf([]byte("\x00a\n\xff"), 4) {
		for _, l := range listsOf(fewAround(len(text)), 2) {
			checkPieces(t, text, l)
		}
	}
}

// TestPiecesArePlaces holds Pieces against Places: it is cut at these, whatever the cuts were.
func TestPiecesArePlaces(t *testing.T) {
	text := []byte("seine\x00\xff")
	for _, l := range listsOf([]int{math.MinInt, -1, 0, 1, 3, 6, 7, 8, math.MaxInt}, 4) {
		at := cuts.Places(len(text), l...)
		got, want := cuts.Pieces(text, l...), cuts.Pieces(text, at...)
		if shown(got) != shown(want) {
			t.Fatalf("at %d it is %s, at the places %d %s", l, shown(got), at, shown(want))
		}
		from := 0
		for i, to := range append(at, len(text)) {
			if string(got[i]) != string(text[from:to]) {
				t.Fatalf("at %d it is %s: piece %d isn't from %d to %d", l, shown(got), i, from, to)
			}
			from = to
		}
	}
}

func TestPiecesOfManyCuts(t *testing.T) {
	for _, n := range []int{0, 1, 5, 100, 1000} {
		for seed := range uint32(10) {
			for _, many := range []int{5, 50, api.MaxCuts} {
				checkPieces(t, someText(n), someCuts(seed, many, n))
			}
		}
	}
}

func TestPiecesOfLongTexts(t *testing.T) {
	text := bytes.Repeat([]byte("seine\x00\xff\n"), api.MaxInput/8)
	var at []int
	for i := range api.MaxCuts {
		at = append(at, i*i+1)
	}
	got := cuts.Pieces(text, at...)
	if len(got) != len(at)+1 {
		t.Fatalf("there are %d pieces", len(got))
	}
	from := 0
	for i, to := range append(at, len(text)) {
		if !bytes.Equal(got[i], text[from:to]) {
			t.Fatalf("piece %d isn't from %d to %d", i, from, to)
		}
		from = to
	}
}

func TestPiecesOfEachByte(t *testing.T) {
	text := someText(1 << 16)
	var at []int
	for i := range text {
		at = append(at, i)
	}
	got := cuts.Pieces(text, at...)
	if len(got) != len(text)+1 || len(got[0]) != 0 {
		t.Fatalf("there are %d pieces, the first one of %d bytes", len(got), len(got[0]))
	}
	for i, c := range text {
		if p := got[i+1]; len(p) != 1 || p[0] != c {
			t.Fatalf("piece %d is %q", i+1, p)
		}
	}
}

// P19.3

func TestEachByHand(t *testing.T) {
	const least, most = math.MinInt, math.MaxInt
	for _, x := range []struct {
		text string
		n    int
		want []string
	}{
		// The chapter's example.
		{"abcde", 2, []string{"ab", "cd", "e"}},
		{"abcde", 1, []string{"a", "b", "c", "d", "e"}},
		{"abcde", 3, []string{"abc", "de"}},
		// One less than the length, just it, one more, and far above.
		{"abcde", 4, []string{"abcd", "e"}},
		{"abcde", 5, []string{"abcde"}},
		{"abcde", 6, []string{"abcde"}},
		{"abcde", 1 << 32, []string{"abcde"}},
		{"abcde", 1<<32 + 2, []string{"abcde"}},
		{"abcde", most - 1, []string{"abcde"}},
		{"abcde", most, []string{"abcde"}},
		// Below 1: all at once.
		{"abcde", 0, []string{"abcde"}},
		{"abcde", -1, []string{"abcde"}},
		{"abcde", -2, []string{"abcde"}},
		{"abcde", -1<<32 + 2, []string{"abcde"}},
		{"abcde", least, []string{"abcde"}},
		{"abcde", least + 1, []string{"abcde"}},
		// A length that is a multiple of n has no piece behind it.
		{"abcdef", 1, []string{"a", "b", "c", "d", "e", "f"}},
		{"abcdef", 2, []string{"ab", "cd", "ef"}},
		{"abcdef", 3, []string{"abc", "def"}},
		{"abcdef", 4, []string{"abcd", "ef"}},
		{"abcdef", 6, []string{"abcdef"}},
		// Texts of one byte, and of none.
		{"a", least, []string{"a"}},
		{"a", -1, []string{"a"}},
		{"a", 0, []string{"a"}},
		{"a", 1, []string{"a"}},
		{"a", 2, []string{"a"}},
		{"a", most, []string{"a"}},
		{"", least, nil},
		{"", -1, nil},
		{"", 0, nil},
		{"", 1, nil},
		{"", 3, nil},
		{"", most, nil},
		// Whatever the bytes are.
		{"\x00\xff", 1, []string{"\x00", "\xff"}},
		{"\xff\x00\x00", 2, []string{"\xff\x00", "\x00"}},
		{"\x00", 0, []string{"\x00"}},
		{"\n\na\n", 3, []string{"\n\na", "\n"}},
		{"é", 1, []string{"\xc3", "\xa9"}},
	} {
		var want [][]byte
		for _, p := range x.want {
			want = append(want, []byte(p))
		}
		if got := cuts.Each([]byte(x.text), x.n); shown(got) != shown(want) {
			t.Errorf("Each(%q, %d) is %s, not %s", x.text, x.n, shown(got), shown(want))
		}
		checkEach(t, []byte(x.text), x.n)
	}
}

func TestEachOfNil(t *testing.T) {
	for _, text := range [][]byte{nil, {}, make([]byte, 0, 9), []byte("abc")[:0], []byte("abc")[3:]} {
		for _, n := range around(3) {
			if got := cuts.Each(text, n); len(got) != 0 {
				t.Fatalf("Each(nil, %d) is %s", n, shown(got))
			}
		}
	}
}

func TestEachOfEachLength(t *testing.T) {
	for length := range 60 {
		for _, n := range around(length) {
			checkEach(t, someText(length), n)
		}
	}
}

func TestEachOfAllShortTexts(t *testing.T) {
	for _, text := range listsOf([]byte("\x00a\n\xff"), 5) {
		for _, n := range fewAround(len(text)) {
			checkEach(t, text, n)
		}
	}
}

// TestEachHasNoEmptyPiece holds what P19.3 says of lengths: all are n but the last one, which has 1 to n.
func TestEachHasNoEmptyPiece(t *testing.T) {
	for length := range 50 {
		for n := 1; n < length+3; n++ {
			got := cuts.Each(someText(length), n)
			if len(got) != (length+n-1)/n {
				t.Fatalf("of %d bytes and %d there are %d pieces", length, n, len(got))
			}
			for i, p := range got {
				if len(p) > n || len(p) == 0 || len(p) < n && i < len(got)-1 {
					t.Fatalf("of %d bytes and %d piece %d has %d", length, n, i, len(p))
				}
			}
		}
	}
}

func TestEachIsPieces(t *testing.T) {
	text := []byte("seine finds texts")
	for n := 1; n < len(text)+3; n++ {
		var at []int
		for p := n; p < len(text); p += n {
			at = append(at, p)
		}
		if got, want := cuts.Each(text, n), cuts.Pieces(text, at...); shown(got) != shown(want) {
			t.Fatalf("Each of %d is %s, cut at %d %s", n, shown(got), at, shown(want))
		}
	}
}

func TestEachOfLongTexts(t *testing.T) {
	text := bytes.Repeat([]byte("seine\x00\xff\n"), api.MaxInput/8)
	for _, n := range []int{1, 7, 400, 1 << 19, 1<<20 - 1, 1 << 20, 1<<20 + 1, math.MaxInt, 0, math.MinInt} {
		got := cuts.Each(text, n)
		size := n
		if n < 1 || n > len(text) {
			size = len(text)
		}
		if len(got) != (len(text)+size-1)/size {
			t.Fatalf("of %d there are %d pieces", n, len(got))
		}
		for i, p := range got {
			if !bytes.Equal(p, text[i*size:min(i*size+size, len(text))]) {
				t.Fatalf("of %d piece %d has %d bytes, or others", n, i, len(p))
			}
		}
	}
}

// P19.4

func TestPiecesAreTheText(t *testing.T) {
	for _, text := range []string{"", "a", "\x00", "\xff", "ab\n\x00\xff\ncd", strings.Repeat("\xff\x00seine", 30)} {
		for seed := range uint32(60) {
			l := someCuts(seed, int(seed), len(text))
			got := cuts.Pieces([]byte(text), l...)
			if string(slices.Concat(got...)) != text {
				t.Fatalf("at %d %q is %s", l, text, shown(got))
			}
		}
		for _, n := range around(len(text)) {
			got := cuts.Each([]byte(text), n)
			if string(slices.Concat(got...)) != text {
				t.Fatalf("of %d %q is %s", n, text, shown(got))
			}
		}
	}
}

func TestEveryByteIsThere(t *testing.T) {
	text := make([]byte, 256)
	var at []int
	for c := range text {
		text[c] = byte(c)
		at = append(at, c)
	}
	for name, got := range map[string][][]byte{
		"Each of 1":           cuts.Each(text, 1),
		"Each of 100":         cuts.Each(text, 100),
		"Each of 0":           cuts.Each(text, 0),
		"cut nowhere":         cuts.Pieces(text),
		"cut at 0, 255, 256":  cuts.Pieces(text, 0, 255, 256),
		"cut ahead of each":   cuts.Pieces(text, at...),
		"cut at a falling 99": cuts.Pieces(text, 99, 98, 1000),
	} {
		if !bytes.Equal(slices.Concat(got...), text) {
			t.Errorf("%s: %s", name, shown(got))
		}
	}
}

func TestPiecesCutAgain(t *testing.T) {
	text := []byte("abc\x00\xffde")
	for _, l := range listsOf(fewAround(len(text)), 2) {
		for _, n := range []int{-1, 1, 2, 3} {
			var again []byte
			for _, p := range cuts.Pieces(text, l...) {
				for _, q := range cuts.Each(p, n) {
					again = append(again, slices.Concat(cuts.Pieces(q, 1, 0)...)...)
				}
			}
			if !bytes.Equal(again, text) {
				t.Fatalf("at %d, and by %d, it becomes %q", l, n, again)
			}
		}
	}
}

// DOC.md, rules 3 and 4

// ways are the two that a text comes in pieces, each of many kinds, by its name.
func ways() map[string]func([]byte) [][]byte {
	all := map[string]func([]byte) [][]byte{}
	for _, l := range append(listsOf([]int{-1, 0, 1, 3, 5, 6, 9}, 2), []int{0, 1, 2, 2, 3, 4, 5, 6}) {
		all[fmt.Sprint("Pieces at ", l)] = func(t []byte) [][]byte { return cuts.Pieces(t, l...) }
	}
	for n := -1; n < 8; n++ {
		all[fmt.Sprint("Each of ", n)] = func(t []byte) [][]byte { return cuts.Each(t, n) }
	}
	return all
}

// roomy is a text with bytes behind it, where there is room; they are no part of it.
func roomy(text string) (room, part []byte) {
	room = []byte(text + "Tail")
	return room, room[:len(text)]
}

// spoil changes all bytes of a text, and those behind it where there is room.
func spoil(b []byte) {
	b = b[:cap(b)]
	for i := range b {
		b[i] ^= 0x5a
	}
}

// copied is pieces as texts that nobody changes.
func copied(pieces [][]byte) []string {
	var l []string
	for _, p := range pieces {
		l = append(l, string(p))
	}
	return l
}

// samePieces holds pieces against what they were, but for one of them.
func samePieces(t *testing.T, name string, got [][]byte, want []string, but int) {
	t.Helper()
	for i, p := range got {
		if i != but && string(p) != want[i] {
			t.Fatalf("%s: piece %d is %q, not %q", name, i, p, want[i])
		}
	}
}

// manyTexts are texts that memory is looked at with.
var manyTexts = []string{"", "a", "ab", "abcdef", "\x00\xff\x00\xff\n", "seine finds many texts"}

func TestNothingHandedInIsChanged(t *testing.T) {
	for name, way := range ways() {
		for _, text := range manyTexts {
			room, part := roomy(text)
			got := way(part)
			if string(room) != text+"Tail" {
				t.Fatalf("%s of %q: it became %q", name, text, room)
			}
			for _, p := range got {
				spoil(p)
				_ = append(p, "xyz"...)
			}
			if string(room) != text+"Tail" {
				t.Fatalf("%s of %q: with its pieces it became %q", name, text, room)
			}
		}
	}
}

func TestNoTextIsKept(t *testing.T) {
	for name, way := range ways() {
		for _, text := range manyTexts {
			_, part := roomy(text)
			got := way(part)
			want := copied(got)
			spoil(part)
			samePieces(t, name+", the text changed", got, want, -1)
			if shown(way([]byte(text))) != shown(got) {
				t.Fatalf("%s of %q has two answers", name, text)
			}
		}
	}
}

func TestPiecesThatAreChanged(t *testing.T) {
	for name, way := range ways() {
		for _, text := range manyTexts {
			many := len(way([]byte(text)))
			for i := range many {
				got := way([]byte(text))
				want := copied(got)
				spoil(got[i])
				samePieces(t, fmt.Sprintf("%s of %q, piece %d changed", name, text, i), got, want, i)
			}
		}
	}
}

func TestPiecesThatGrow(t *testing.T) {
	for name, way := range ways() {
		for _, text := range manyTexts {
			got := way([]byte(text))
			want := copied(got)
			for i := range got {
				longer := append(got[i], "xyz"...)
				if string(longer) != want[i]+"xyz" {
					t.Fatalf("%s of %q: piece %d, made longer, is %q", name, text, i, longer)
				}
				spoil(longer[len(want[i]):])
				samePieces(t, fmt.Sprintf("%s of %q, piece %d made longer", name, text, i), got, want, -1)
			}
		}
	}
}

// TestPiecesHaveNoRoom holds the chapter's words of three indices: each piece ends where it ends, the last one and empty ones, too.
func TestPiecesHaveNoRoom(t *testing.T) {
	for name, way := range ways() {
		for length := range 70 {
			for i, p := range way(someText(length)) {
				if cap(p) != len(p) {
					t.Fatalf("%s of %d bytes: piece %d has %d bytes, and room for %d", name, length, i, len(p), cap(p))
				}
			}
		}
	}
}

func TestAnswersAreNewMemory(t *testing.T) {
	for name, way := range ways() {
		for _, text := range manyTexts {
			b := []byte(text)
			one, two := way(b), way(b)
			want := copied(two)
			for i := range one {
				spoil(one[i])
				one[i] = []byte("other")
			}
			_ = append(one, []byte("more"))
			samePieces(t, name+", another answer changed", two, want, -1)
			samePieces(t, name+", an answer changed ahead of it", way(b), want, -1)
		}
	}
}

func TestCutsAreNeitherChangedNorKept(t *testing.T) {
	for _, l := range append(listsOf(fewAround(4), 3), someCuts(3, 50, 20)) {
		// There is room behind the cuts: what is put there must not show, nor be changed.
		room := append(slices.Clone(l), 2, 1, 7, 7)
		was := slices.Clone(room)
		part := room[:len(l)]
		places := cuts.Places(4, part...)
		pieces := cuts.Pieces([]byte("abcd"), part...)
		if !slices.Equal(room, was) {
			t.Fatalf("the cuts %d became %d", was, room)
		}
		wantPlaces, wantPieces := slices.Clone(places), copied(pieces)
		for i := range room {
			room[i] = -room[i] + 3
		}
		if !slices.Equal(places, wantPlaces) {
			t.Fatalf("the cuts %d changed, their places are %d, not %d", was, places, wantPlaces)
		}
		samePieces(t, "the cuts changed", pieces, wantPieces, -1)
	}
}

func TestPlacesAreNewMemory(t *testing.T) {
	for _, l := range listsOf(fewAround(4), 3) {
		room := append(slices.Clone(l), 8, 9)
		was := slices.Clone(room)
		one, two := cuts.Places(4, room[:len(l)]...), cuts.Places(4, room[:len(l)]...)
		want := slices.Clone(two)
		for i := range one {
			one[i] = 77
		}
		_ = append(one, 78, 79)
		one = one[:cap(one)]
		for i := range one {
			one[i] = 80
		}
		if !slices.Equal(two, want) || !slices.Equal(room, was) {
			t.Fatalf("the places of %d changed, others are %d, not %d, and the cuts %d", l, two, want, room)
		}
	}
}

func TestSameCallsSameAnswers(t *testing.T) {
	for name, way := range ways() {
		for _, text := range manyTexts {
			want := shown(way([]byte(text)))
			_, part := roomy(text)
			for range 3 {
				// Neither room behind what is handed in nor where it lies plays a part.
				if got := shown(way(part)); got != want {
					t.Fatalf("%s of %q has two answers: %s and %s", name, text, want, got)
				}
			}
		}
	}
	if !slices.Equal(cuts.Places(9, nil...), cuts.Places(9, none...)) {
		t.Error("nil and empty cuts have two answers")
	}
	if shown(cuts.Pieces([]byte("ab"), nil...)) != shown(cuts.Pieces([]byte("ab"), none...)) {
		t.Error("nil and empty cuts have two answers")
	}
	if shown(cuts.Pieces(nil, 1)) != shown(cuts.Pieces([]byte{}, 1)) || shown(cuts.Each(nil, 1)) != shown(cuts.Each([]byte{}, 1)) {
		t.Error("nil and empty texts have two answers")
	}
}
