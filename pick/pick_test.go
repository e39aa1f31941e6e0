package pick_test

import (
	"math"
	"slices"
	"testing"

	"seine/api"
	"seine/pick"
)

// of is the list of pairs whose numbers stand one behind another.
func of(numbers ...int) []api.Pair {
	var l []api.Pair
	for i := 0; i+1 < len(numbers); i += 2 {
		l = append(l, api.Pair{Start: numbers[i], End: numbers[i+1]})
	}
	return l
}

// pairsFrom are all pairs of numbers from low to high: those that rise, empty ones, and those that fall.
func pairsFrom(low, high int) []api.Pair {
	var l []api.Pair
	for s := low; s <= high; s++ {
		for e := low; e <= high; e++ {
			l = append(l, api.Pair{Start: s, End: e})
		}
	}
	return l
}

// forLists hands over each list of at most most of some pairs, in each order, each as often as may be.
//
// It is the same memory from list to list, so whoever keeps one has to copy it.
func forLists(some []api.Pair, most int, f func(l []api.Pair)) {
	row := make([]api.Pair, 0, most)
	var longer func()
	longer = func() {
		f(row)
		if len(row) == most {
			return
		}
		for _, p := range some {
			row = append(row, p)
			longer()
			row = row[:len(row)-1]
		}
	}
	longer()
}

// mixed is a list of n pairs of numbers from low on, below low+wide, by a rule that leaves them in no order.
func mixed(n, low, wide int) []api.Pair {
	l := make([]api.Pair, n)
	x := uint32(2463534242)
	draw := func() int {
		x ^= x << 13
		x ^= x >> 17
		x ^= x << 5
		return low + int(x%uint32(wide))
	}
	for i := range l {
		l[i] = api.Pair{Start: draw(), End: draw()}
	}
	return l
}

// emptyLists are the empty list, nil and not nil, with room behind it and without.
func emptyLists() [][]api.Pair {
	full := of(0, 1, 1, 3)
	return [][]api.Pair{nil, {}, make([]api.Pair, 0, 9), full[:0], full[1:1], full[2:]}
}

// first is P23.1, each of its words one after the other: those that are asked for, of these the least Start, of these the greatest End.
func first(l []api.Pair, from int) (api.Pair, bool) {
	var asked []api.Pair
	for _, p := range l {
		if p.Start < p.End && p.Start >= from {
			asked = append(asked, p)
		}
	}
	if len(asked) == 0 {
		return api.Pair{}, false
	}
	start := asked[0].Start
	for _, p := range asked {
		start = min(start, p.Start)
	}
	end := math.MinInt
	for _, p := range asked {
		if p.Start == start {
			end = max(end, p.End)
		}
	}
	return api.Pair{Start: start, End: end}, true
}

// longest is P23.2, by first.
func longest(l []api.Pair) []api.Pair {
	var told []api.Pair
	p, is := first(l, math.MinInt)
	for is {
		told = append(told, p)
		p, is = first(l, p.End)
	}
	return told
}

// gaps is P23.3, with at worked out anew for each pair, from all that stand ahead of it.
func gaps(l []api.Pair, n int) []api.Pair {
	at := func(i int) int {
		most := 0
		for _, p := range l[:i] {
			if p.End > most {
				most = p.End
			}
		}
		return most
	}
	var told []api.Pair
	for i, p := range l {
		if at(i) < p.Start {
			told = append(told, api.Pair{Start: at(i), End: p.Start})
		}
	}
	if at(len(l)) < n {
		told = append(told, api.Pair{Start: at(len(l)), End: n})
	}
	return told
}

// aroundStarts are numbers around each one that stands in a list, and the ends of an int.
func aroundStarts(l []api.Pair) []int {
	some := []int{math.MinInt, math.MinInt + 1, -1 << 32, -1, 0, 1, 1 << 32, math.MaxInt - 1, math.MaxInt}
	for _, p := range l {
		for _, n := range []int{p.Start, p.End} {
			some = append(some, n)
			if n > math.MinInt {
				some = append(some, n-1)
			}
			if n < math.MaxInt {
				some = append(some, n+1)
			}
		}
	}
	return some
}

// checkFirst holds First against the words.
func checkFirst(t *testing.T, l []api.Pair, from int) {
	t.Helper()
	got, is := pick.First(l, from)
	want, wantIs := first(l, from)
	if got != want || is != wantIs {
		t.Fatalf("First(%d, %d) is %d, %t, not %d, %t", l, from, got, is, want, wantIs)
	}
}

// checkLongest holds Longest against the words.
func checkLongest(t *testing.T, l []api.Pair) {
	t.Helper()
	if got, want := pick.Longest(l), longest(l); !slices.Equal(got, want) {
		t.Fatalf("Longest(%d) is %d, not %d", l, got, want)
	}
}

// checkGaps holds Gaps against the words.
func checkGaps(t *testing.T, l []api.Pair, n int) {
	t.Helper()
	if got, want := pick.Gaps(l, n), gaps(l, n); !slices.Equal(got, want) {
		t.Fatalf("Gaps(%d, %d) is %d, not %d", l, n, got, want)
	}
}

// P23.1

func TestFirstByHand(t *testing.T) {
	example := of(0, 2, 0, 4, 3, 9, 4, 4, 5, 6)
	for _, x := range []struct {
		l    []api.Pair
		from int
		want api.Pair
		is   bool
	}{
		// The chapter's example, from each place.
		{example, math.MinInt, api.Pair{Start: 0, End: 4}, true},
		{example, -1, api.Pair{Start: 0, End: 4}, true},
		{example, 0, api.Pair{Start: 0, End: 4}, true},
		{example, 1, api.Pair{Start: 3, End: 9}, true},
		{example, 3, api.Pair{Start: 3, End: 9}, true},
		{example, 4, api.Pair{Start: 5, End: 6}, true},
		{example, 5, api.Pair{Start: 5, End: 6}, true},
		{example, 6, api.Pair{}, false},
		{example, math.MaxInt, api.Pair{}, false},
		// Nothing, and nothing but pairs that don't count.
		{nil, math.MinInt, api.Pair{}, false},
		{[]api.Pair{}, 0, api.Pair{}, false},
		{of(3, 3), 0, api.Pair{}, false},
		{of(0, 0), 0, api.Pair{}, false},
		{of(3, 3, 0, 0, 7, 7), math.MinInt, api.Pair{}, false},
		{of(3, 2), 0, api.Pair{}, false},
		{of(3, -3), math.MinInt, api.Pair{}, false},
		{of(5, 4, 4, 3, 2, 2), 0, api.Pair{}, false},
		{of(math.MinInt, math.MinInt), math.MinInt, api.Pair{}, false},
		{of(math.MaxInt, math.MaxInt), math.MaxInt, api.Pair{}, false},
		{of(math.MaxInt, math.MinInt), math.MinInt, api.Pair{}, false},
		{of(math.MaxInt, math.MinInt), math.MaxInt, api.Pair{}, false},
		{of(math.MinInt+1, math.MinInt), math.MinInt, api.Pair{}, false},
		// They are left out beside others, ahead of them in the list and behind.
		{of(0, 0, 2, 3), 0, api.Pair{Start: 2, End: 3}, true},
		{of(2, 3, 0, 0), 0, api.Pair{Start: 2, End: 3}, true},
		{of(1, 0, 2, 3), 0, api.Pair{Start: 2, End: 3}, true},
		{of(2, 3, 1, 0), 0, api.Pair{Start: 2, End: 3}, true},
		{of(2, 2, 2, 3, 2, 1), 0, api.Pair{Start: 2, End: 3}, true},
		{of(2, 3, 9, 8), 3, api.Pair{}, false},
		// From below, at and above the Start; that a pair goes on behind from, or ends there, plays no part.
		{of(4, 9), 3, api.Pair{Start: 4, End: 9}, true},
		{of(4, 9), 4, api.Pair{Start: 4, End: 9}, true},
		{of(4, 9), 5, api.Pair{}, false},
		{of(4, 9), 8, api.Pair{}, false},
		{of(4, 9), 9, api.Pair{}, false},
		{of(4, 9), math.MinInt, api.Pair{Start: 4, End: 9}, true},
		{of(4, 9), math.MaxInt, api.Pair{}, false},
		// Two of one Start.
		{of(1, 3, 1, 5), 0, api.Pair{Start: 1, End: 5}, true},
		{of(1, 5, 1, 3), 0, api.Pair{Start: 1, End: 5}, true},
		{of(1, 3, 1, 5, 1, 4), 1, api.Pair{Start: 1, End: 5}, true},
		{of(1, 5, 1, 3), 2, api.Pair{}, false},
		// The least Start comes ahead of the greatest End.
		{of(1, 9, 0, 2), 0, api.Pair{Start: 0, End: 2}, true},
		{of(0, 2, 1, 9), 0, api.Pair{Start: 0, End: 2}, true},
		{of(0, 2, 1, 9), 1, api.Pair{Start: 1, End: 9}, true},
		{of(8, 9, 6, 7, 4, 5), 0, api.Pair{Start: 4, End: 5}, true},
		// The same one twice.
		{of(2, 4, 2, 4), 0, api.Pair{Start: 2, End: 4}, true},
		{of(2, 4, 2, 4), 3, api.Pair{}, false},
		// Numbers below 0.
		{of(-4, -2, -4, -1, -3, 7), math.MinInt, api.Pair{Start: -4, End: -1}, true},
		{of(-4, -2, -4, -1, -3, 7), -4, api.Pair{Start: -4, End: -1}, true},
		{of(-4, -2, -4, -1, -3, 7), -3, api.Pair{Start: -3, End: 7}, true},
		{of(-4, -2, -4, -1, -3, 7), -2, api.Pair{}, false},
		{of(1, 2, -1, 0), 0, api.Pair{Start: 1, End: 2}, true},
		{of(1, 2, -1, 0), -1, api.Pair{Start: -1, End: 0}, true},
		{of(0, 1, -1, 5), math.MinInt, api.Pair{Start: -1, End: 5}, true},
		// The ends of an int, and beyond 32 bits.
		{of(math.MinInt, math.MaxInt), math.MinInt, api.Pair{Start: math.MinInt, End: math.MaxInt}, true},
		{of(math.MinInt, math.MaxInt), math.MinInt + 1, api.Pair{}, false},
		{of(math.MinInt, math.MinInt+1, math.MinInt, 0), math.MinInt, api.Pair{Start: math.MinInt, End: 0}, true},
		{of(0, 1, math.MinInt, math.MinInt+1), math.MinInt, api.Pair{Start: math.MinInt, End: math.MinInt + 1}, true},
		{of(0, 1, math.MinInt, math.MinInt+1), math.MinInt + 1, api.Pair{Start: 0, End: 1}, true},
		{of(math.MaxInt-1, math.MaxInt), math.MaxInt - 1, api.Pair{Start: math.MaxInt - 1, End: math.MaxInt}, true},
		{of(math.MaxInt-1, math.MaxInt), math.MaxInt, api.Pair{}, false},
		{of(math.MaxInt-1, math.MaxInt, math.MinInt, 0), math.MinInt, api.Pair{Start: math.MinInt, End: 0}, true},
		{of(1<<32, 1<<32+1, 1, 2), 0, api.Pair{Start: 1, End: 2}, true},
		{of(1<<32, 1<<32+1, 1, 2), 2, api.Pair{Start: 1 << 32, End: 1<<32 + 1}, true},
		{of(0, 5, 0, 1<<32), 0, api.Pair{Start: 0, End: 1 << 32}, true},
		{of(0, 1<<32, 0, 5), -1 << 32, api.Pair{Start: 0, End: 1 << 32}, true},
	} {
		if got, is := pick.First(x.l, x.from); got != x.want || is != x.is {
			t.Errorf("First(%d, %d) is %d, %t", x.l, x.from, got, is)
		}
		checkFirst(t, x.l, x.from)
	}
}

func TestFirstOfEmptyLists(t *testing.T) {
	for _, l := range emptyLists() {
		for _, from := range aroundStarts(nil) {
			if got, is := pick.First(l, from); got != (api.Pair{}) || is {
				t.Errorf("First of an empty list, %d is %d, %t", from, got, is)
			}
		}
	}
}

func TestFirstOfAllShortLists(t *testing.T) {
	forLists(pairsFrom(-1, 2), 3, func(l []api.Pair) {
		for from := -2; from <= 3; from++ {
			checkFirst(t, l, from)
		}
		checkFirst(t, l, math.MinInt)
		checkFirst(t, l, math.MaxInt)
	})
	forLists(of(0, 1, 0, 2, 1, 2, 1, 3, 2, 2, 2, 0), 5, func(l []api.Pair) {
		for from := range 3 {
			checkFirst(t, l, from)
		}
	})
}

// TestFirstOfAllFarPairs has lists of pairs at the ends of an int.
func TestFirstOfAllFarPairs(t *testing.T) {
	far := []int{math.MinInt, math.MinInt + 1, -1, 0, math.MaxInt - 1, math.MaxInt}
	var some []api.Pair
	for _, s := range far {
		for _, e := range far {
			some = append(some, api.Pair{Start: s, End: e})
		}
	}
	forLists(some, 2, func(l []api.Pair) {
		for _, from := range far {
			checkFirst(t, l, from)
		}
	})
}

func TestFirstOfLongLists(t *testing.T) {
	for _, n := range []int{20, 50, 300} {
		l := mixed(n, -40, 100)
		for _, from := range aroundStarts(l) {
			checkFirst(t, l, from)
		}
	}
}

// P23.2

func TestLongestByHand(t *testing.T) {
	for _, x := range []struct {
		l, want []api.Pair
	}{
		// The chapter's examples, in other orders, too.
		{of(0, 2, 0, 4, 3, 9, 4, 4, 5, 6), of(0, 4, 5, 6)},
		{of(5, 6, 4, 4, 3, 9, 0, 4, 0, 2), of(0, 4, 5, 6)},
		{of(3, 9, 0, 4, 5, 6, 0, 2, 4, 4), of(0, 4, 5, 6)},
		{of(0, 2, 0, 4, 3, 9, 5, 6), of(0, 4, 5, 6)},
		// Nothing, and nothing but pairs that don't count.
		{nil, nil},
		{[]api.Pair{}, nil},
		{of(4, 4), nil},
		{of(0, 0, 1, 1, 0, 0), nil},
		{of(4, 3), nil},
		{of(4, 3, 2, -9, 7, 7), nil},
		{of(math.MaxInt, math.MinInt), nil},
		// One alone.
		{of(0, 1), of(0, 1)},
		{of(7, 9), of(7, 9)},
		{of(-9, -7), of(-9, -7)},
		// Two that overlap: the one that begins first is told, the other isn't.
		{of(0, 3, 2, 5), of(0, 3)},
		{of(2, 5, 0, 3), of(0, 3)},
		{of(0, 3, 2, 100), of(0, 3)},
		// One within another, at its front, inside, at its end.
		{of(0, 5, 0, 2), of(0, 5)},
		{of(0, 2, 0, 5), of(0, 5)},
		{of(0, 5, 2, 3), of(0, 5)},
		{of(2, 3, 0, 5), of(0, 5)},
		{of(0, 5, 3, 5), of(0, 5)},
		{of(3, 5, 0, 5), of(0, 5)},
		// One begins where another ends, a byte ahead of it, a byte behind it.
		{of(0, 2, 2, 4), of(0, 2, 2, 4)},
		{of(2, 4, 0, 2), of(0, 2, 2, 4)},
		{of(0, 2, 1, 4), of(0, 2)},
		{of(0, 2, 3, 4), of(0, 2, 3, 4)},
		// What overlaps one that isn't told is told.
		{of(0, 2, 1, 4, 3, 5), of(0, 2, 3, 5)},
		{of(0, 2, 1, 9, 2, 3, 3, 4), of(0, 2, 2, 3, 3, 4)},
		{of(0, 4, 2, 6, 4, 8, 6, 10, 8, 12), of(0, 4, 4, 8, 8, 12)},
		// Empty ones within, between, beside, and those that fall.
		{of(0, 2, 1, 1, 2, 2, 2, 4, 4, 4), of(0, 2, 2, 4)},
		{of(0, 2, 2, 1, 2, 3), of(0, 2, 2, 3)},
		{of(0, 2, 2, 0, 2, 3), of(0, 2, 2, 3)},
		{of(0, 2, 5, 3, 4, 6), of(0, 2, 4, 6)},
		// Each pair as often as it is there: it is told once.
		{of(0, 2, 0, 2), of(0, 2)},
		{of(0, 2, 2, 4, 0, 2, 2, 4), of(0, 2, 2, 4)},
		{of(2, 4, 0, 2, 2, 4, 0, 2, 2, 4), of(0, 2, 2, 4)},
		// Numbers below 0.
		{of(-5, -3, -5, -2, -3, 0, -2, 1, 0, 4), of(-5, -2, -2, 1)},
		{of(0, 1, -1, 0, -2, -1), of(-2, -1, -1, 0, 0, 1)},
		{of(3, 4, -1, 2), of(-1, 2, 3, 4)},
		// The ends of an int, and beyond 32 bits.
		{of(math.MinInt, 0, 0, math.MaxInt), of(math.MinInt, 0, 0, math.MaxInt)},
		{of(0, math.MaxInt, math.MinInt, 0), of(math.MinInt, 0, 0, math.MaxInt)},
		{of(math.MinInt, math.MaxInt, 0, 1), of(math.MinInt, math.MaxInt)},
		{of(math.MinInt, math.MinInt+1, math.MaxInt-1, math.MaxInt), of(math.MinInt, math.MinInt+1, math.MaxInt-1, math.MaxInt)},
		{of(math.MinInt, math.MinInt), nil},
		{of(math.MaxInt, math.MaxInt), nil},
		{of(math.MaxInt-1, math.MaxInt, math.MaxInt, math.MaxInt), of(math.MaxInt-1, math.MaxInt)},
		{of(math.MinInt, math.MinInt+1, math.MinInt, math.MinInt+2, math.MinInt+1, 0, math.MinInt+2, 0), of(math.MinInt, math.MinInt+2, math.MinInt+2, 0)},
		{of(1<<32, 1<<32+2, 0, 1, 1<<32+1, 1<<33), of(0, 1, 1<<32, 1<<32+2)},
	} {
		if got := pick.Longest(x.l); !slices.Equal(got, x.want) {
			t.Errorf("Longest(%d) is %d, not %d", x.l, got, x.want)
		}
		checkLongest(t, x.l)
	}
}

func TestLongestOfEmptyLists(t *testing.T) {
	for _, l := range emptyLists() {
		if got := pick.Longest(l); len(got) != 0 {
			t.Errorf("Longest of an empty list is %d", got)
		}
	}
}

func TestLongestOfAllShortLists(t *testing.T) {
	forLists(pairsFrom(-1, 2), 4, func(l []api.Pair) { checkLongest(t, l) })
	forLists(pairsFrom(0, 4), 3, func(l []api.Pair) { checkLongest(t, l) })
	forLists(of(0, 1, 0, 2, 1, 2, 1, 3, 2, 2, 3, 0), 6, func(l []api.Pair) { checkLongest(t, l) })
}

// TestLongestIsFirstAndFirst has its pairs asked for one by one.
func TestLongestIsFirstAndFirst(t *testing.T) {
	forLists(pairsFrom(0, 3), 3, func(l []api.Pair) {
		var told []api.Pair
		for p, is := pick.First(l, math.MinInt); is && len(told) <= len(l); p, is = pick.First(l, p.End) {
			told = append(told, p)
		}
		if got := pick.Longest(l); !slices.Equal(got, told) {
			t.Fatalf("Longest(%d) is %d, by First %d", l, got, told)
		}
	})
}

// TestLongestOfEachOrder has the same pairs in each order, and twice.
func TestLongestOfEachOrder(t *testing.T) {
	some := of(0, 3, 0, 2, 1, 4, 2, 5, 3, 4, 4, 4)
	want := of(0, 3, 3, 4)
	var orders func(ahead, left []api.Pair)
	orders = func(ahead, left []api.Pair) {
		if len(left) == 0 {
			if got := pick.Longest(ahead); !slices.Equal(got, want) {
				t.Fatalf("Longest(%d) is %d, not %d", ahead, got, want)
			}
			if got := pick.Longest(slices.Concat(ahead, some)); !slices.Equal(got, want) {
				t.Fatalf("Longest(%d twice) is %d, not %d", ahead, got, want)
			}
			return
		}
		for i := range left {
			orders(append(slices.Clone(ahead), left[i]), slices.Concat(left[:i], left[i+1:]))
		}
	}
	orders(nil, some)
}

func TestLongestOfLongLists(t *testing.T) {
	for _, n := range []int{20, 300, 2000} {
		for _, wide := range []int{5, 40, 1000} {
			checkLongest(t, mixed(n, -wide/3, wide))
		}
	}
}

// TestLongestOfManyPieces has as many pieces as an input has bytes, in falling order.
func TestLongestOfManyPieces(t *testing.T) {
	n := api.MaxInput
	l := make([]api.Pair, 0, 2*n)
	for s := n - 1; s >= 0; s-- {
		l = append(l, api.Pair{Start: s, End: s + 1}, api.Pair{Start: s, End: s})
	}
	got := pick.Longest(l)
	if len(got) != n {
		t.Fatalf("Longest of %d pieces side by side tells %d", n, len(got))
	}
	for i, p := range got {
		if p != (api.Pair{Start: i, End: i + 1}) {
			t.Fatalf("Longest of pieces side by side has %d at %d", p, i)
		}
	}
	if got := pick.Longest(append(l, api.Pair{Start: 0, End: n})); !slices.Equal(got, of(0, n)) {
		t.Errorf("Longest with one of all of them is %.60d", got)
	}
}

// P23.3

func TestGapsByHand(t *testing.T) {
	for _, x := range []struct {
		l    []api.Pair
		n    int
		want []api.Pair
	}{
		// The chapter's example, and of other n.
		{of(0, 4, 5, 6), 8, of(4, 5, 6, 8)},
		{of(0, 4, 5, 6), 7, of(4, 5, 6, 7)},
		{of(0, 4, 5, 6), 6, of(4, 5)},
		{of(0, 4, 5, 6), 5, of(4, 5)},
		{of(0, 4, 5, 6), 0, of(4, 5)},
		{of(0, 4, 5, 6), -1, of(4, 5)},
		// Nothing, of n below 0, 0, and above.
		{nil, 0, nil},
		{nil, -1, nil},
		{nil, math.MinInt, nil},
		{nil, 1, of(0, 1)},
		{nil, 9, of(0, 9)},
		{nil, 1 << 32, of(0, 1<<32)},
		{nil, math.MaxInt, of(0, math.MaxInt)},
		{[]api.Pair{}, 0, nil},
		{[]api.Pair{}, 3, of(0, 3)},
		// A pair at the front, inside, up to n, the whole line, behind n.
		{of(0, 2), 5, of(2, 5)},
		{of(1, 2), 5, of(0, 1, 2, 5)},
		{of(3, 5), 5, of(0, 3)},
		{of(0, 5), 5, nil},
		{of(3, 7), 5, of(0, 3)},
		{of(0, 7), 5, nil},
		{of(5, 7), 5, of(0, 5)},
		{of(6, 7), 5, of(0, 6)},
		{of(3, 4), 5, of(0, 3, 4, 5)},
		// Two side by side, one byte between, one within the one ahead, two that overlap, the same twice.
		{of(0, 2, 2, 4), 4, nil},
		{of(1, 2, 2, 4), 5, of(0, 1, 4, 5)},
		{of(1, 2, 3, 4), 5, of(0, 1, 2, 3, 4, 5)},
		{of(1, 6, 2, 4), 8, of(0, 1, 6, 8)},
		{of(1, 6, 1, 6), 8, of(0, 1, 6, 8)},
		{of(1, 6, 2, 4, 5, 7), 8, of(0, 1, 7, 8)},
		{of(1, 6, 2, 4, 6, 7), 8, of(0, 1, 7, 8)},
		{of(1, 6, 2, 4, 7, 8), 9, of(0, 1, 6, 7, 8, 9)},
		{of(0, 3, 2, 5), 6, of(5, 6)},
		// Pairs that don't rise.
		{of(4, 6, 1, 2), 8, of(0, 4, 6, 8)},
		{of(4, 6, 1, 7), 8, of(0, 4, 7, 8)},
		{of(4, 6, 0, 9), 8, of(0, 4)},
		{of(4, 5, 2, 3, 7, 8), 9, of(0, 4, 5, 7, 8, 9)},
		// Empty ones: they part what is told, but where nothing stands ahead.
		{of(0, 0), 0, nil},
		{of(0, 0), 3, of(0, 3)},
		{of(2, 2), 5, of(0, 2, 2, 5)},
		{of(2, 2, 2, 2), 5, of(0, 2, 2, 5)},
		{of(5, 5), 5, of(0, 5)},
		{of(1, 4, 2, 2, 4, 4), 5, of(0, 1, 4, 5)},
		{of(7, 7), 5, of(0, 7)},
		// Those whose Start is above their End, and those whose End is below what ended ahead.
		{of(3, 1), 5, of(0, 3, 1, 5)},
		{of(3, 0), 5, of(0, 3, 0, 5)},
		{of(3, -2), 5, of(0, 3, 0, 5)},
		{of(0, 2, 4, 1), 5, of(2, 4, 2, 5)},
		{of(0, 2, 4, 3), 5, of(2, 4, 3, 5)},
		{of(0, 2, 4, 3, 4, 5), 5, of(2, 4, 3, 4)},
		{of(0, 4, 3, 1), 5, of(4, 5)},
		{of(9, 2), 5, of(0, 9, 2, 5)},
		{of(9, 8), 5, of(0, 9)},
		// Numbers below 0.
		{of(-3, -1), 2, of(0, 2)},
		{of(-3, 0), 2, of(0, 2)},
		{of(-3, 1), 2, of(1, 2)},
		{of(-3, 5), 2, nil},
		{of(-3, -1, 1, 2), 3, of(0, 1, 2, 3)},
		{of(-1, -3), 2, of(0, 2)},
		// The ends of an int, and beyond 32 bits.
		{of(math.MinInt, math.MaxInt), math.MaxInt, nil},
		{of(math.MinInt, math.MaxInt), math.MinInt, nil},
		{of(math.MaxInt, math.MinInt), math.MaxInt, of(0, math.MaxInt, 0, math.MaxInt)},
		{of(math.MinInt, math.MinInt), math.MaxInt, of(0, math.MaxInt)},
		{of(math.MaxInt, math.MaxInt), math.MaxInt, of(0, math.MaxInt)},
		{of(math.MaxInt-1, math.MaxInt), 0, of(0, math.MaxInt-1)},
		{of(1, math.MaxInt), math.MinInt, of(0, 1)},
		{of(math.MinInt, 0), 0, nil},
		{of(1<<32, 1<<32+1), 1 << 33, of(0, 1<<32, 1<<32+1, 1<<33)},
	} {
		if got := pick.Gaps(x.l, x.n); !slices.Equal(got, x.want) {
			t.Errorf("Gaps(%d, %d) is %d, not %d", x.l, x.n, got, x.want)
		}
		checkGaps(t, x.l, x.n)
	}
}

func TestGapsOfEmptyLists(t *testing.T) {
	for _, l := range emptyLists() {
		for _, n := range aroundStarts(nil) {
			var want []api.Pair
			if n > 0 {
				want = of(0, n)
			}
			if got := pick.Gaps(l, n); !slices.Equal(got, want) {
				t.Errorf("Gaps of an empty list, %d is %d", n, got)
			}
		}
	}
}

func TestGapsOfAllShortLists(t *testing.T) {
	forLists(pairsFrom(-1, 3), 3, func(l []api.Pair) {
		for n := -1; n <= 4; n++ {
			checkGaps(t, l, n)
		}
	})
	forLists(pairsFrom(0, 2), 4, func(l []api.Pair) {
		for n := range 4 {
			checkGaps(t, l, n)
		}
	})
}

func TestGapsOfAllFarPairs(t *testing.T) {
	far := []int{math.MinInt, math.MinInt + 1, -1, 0, 1, math.MaxInt - 1, math.MaxInt}
	var some []api.Pair
	for _, s := range far {
		for _, e := range far {
			some = append(some, api.Pair{Start: s, End: e})
		}
	}
	forLists(some, 2, func(l []api.Pair) {
		for _, n := range far {
			checkGaps(t, l, n)
		}
	})
}

func TestGapsOfLongLists(t *testing.T) {
	for _, count := range []int{20, 300} {
		for _, wide := range []int{5, 100, 10000} {
			l := mixed(count, -wide/3, wide)
			for _, n := range []int{-1, 0, 1, wide / 2, wide, 2 * wide} {
				checkGaps(t, l, n)
				checkGaps(t, pick.Longest(l), n)
			}
		}
	}
}

// TestGapsOfLongestAreWhatIsLeft has each byte of a line in just one pair: one of Longest's, or one of its gaps.
func TestGapsOfLongestAreWhatIsLeft(t *testing.T) {
	const n = 4
	forLists(pairsFrom(0, n), 3, func(l []api.Pair) {
		told := pick.Longest(l)
		var in [n]int
		for _, p := range slices.Concat(told, pick.Gaps(told, n)) {
			if p.Start >= p.End {
				t.Fatalf("%d, of which %d are told: %d is empty", l, told, p)
			}
			for i := p.Start; i < p.End; i++ {
				in[i]++
			}
		}
		if in != [n]int{1, 1, 1, 1} {
			t.Fatalf("%d, of which %d are told: the bytes of the line stand in %d of them and their gaps", l, told, in)
		}
	})
}

// P23.4

// isSo tells whether a list is what P23.4 says of Longest's pairs, word by word.
func isSo(l, told []api.Pair) bool {
	for i, p := range told {
		if !slices.Contains(l, p) || p.Start >= p.End {
			return false
		}
		if i > 0 && p.Start < told[i-1].End {
			return false
		}
	}
	for _, p := range l {
		if p.Start >= p.End {
			continue
		}
		within := func(q api.Pair) bool { return q.Start <= p.Start && p.Start < q.End }
		if !slices.ContainsFunc(told, within) {
			return false
		}
		longer := func(q api.Pair) bool { return p.Start == q.Start && p.End > q.End }
		if slices.ContainsFunc(told, longer) {
			return false
		}
	}
	return true
}

// TestLongestIsAsItFollows holds it against the words alone, not against how it is made.
func TestLongestIsAsItFollows(t *testing.T) {
	forLists(pairsFrom(-1, 2), 4, func(l []api.Pair) {
		if got := pick.Longest(l); !isSo(l, got) {
			t.Fatalf("Longest(%d) is %d", l, got)
		}
	})
	for _, wide := range []int{4, 30, 500} {
		for n := range 60 {
			l := mixed(n, -wide/2, wide)
			if got := pick.Longest(l); !isSo(l, got) {
				t.Fatalf("Longest(%d) is %d", l, got)
			}
		}
	}
}

// TestThereIsOneListAlone has all lists of a few pairs tried: of Longest's alone it is so.
func TestThereIsOneListAlone(t *testing.T) {
	some := of(0, 1, 0, 2, 0, 3, 1, 2, 1, 3, 2, 3, 1, 1, 2, 0)
	forLists(some, 3, func(l []api.Pair) {
		found := 0
		got := pick.Longest(l)
		// One that begins at or behind the End of the one ahead, and isn't empty, can't come twice; so no list is longer than l.
		forLists(some, len(l), func(told []api.Pair) {
			if !isSo(l, told) {
				return
			}
			found++
			if !slices.Equal(got, told) {
				t.Fatalf("Longest(%d) is %d, but it is so of %d", l, got, told)
			}
		})
		if found != 1 {
			t.Fatalf("of %d there are %d lists of which it is so", l, found)
		}
	})
}

// DOC.md, rules 3 and 4

// TestListsAreNotChanged has lists in no order, with room behind them.
func TestListsAreNotChanged(t *testing.T) {
	for _, l := range [][]api.Pair{
		of(5, 6, 4, 4, 3, 9, 0, 4, 0, 2, 9, 1),
		of(0, 4, 5, 6),
		of(0, 4, 0, 4, 0, 4),
		of(9, 1, 3, 3),
		mixed(100, -9, 40),
		nil,
	} {
		room := append(slices.Clone(l), of(70, 71, -3, 90, 1, 1)...)
		was := slices.Clone(room)
		handed := room[:len(l)]
		// Held against what it was behind each call, as one that turns it round, asked twice, would leave it as it was.
		for i, ask := range []func(){
			func() { pick.Longest(handed) },
			func() { pick.First(handed, 1) },
			func() { pick.First(handed, math.MinInt) },
			func() { pick.Gaps(handed, 12) },
			func() { pick.Gaps(handed, math.MaxInt) },
		} {
			if ask(); !slices.Equal(room, was) {
				t.Fatalf("by call %d, %d became %d", i, was, room)
			}
		}
	}
}

// TestAnswersAreNewMemory has answers changed, and what was handed in.
func TestAnswersAreNewMemory(t *testing.T) {
	for _, whole := range [][]api.Pair{of(0, 4, 5, 6), of(0, 1), of(5, 6, 0, 4, 3, 9), of(0, 2, 2, 4, 6, 7)} {
		was := slices.Clone(whole)
		for _, ask := range []func(l []api.Pair) []api.Pair{
			pick.Longest,
			func(l []api.Pair) []api.Pair { return pick.Gaps(l, 10) },
		} {
			want := ask(whole)
			kept := slices.Clone(want)
			got := ask(whole)
			if len(got) == 0 {
				t.Fatalf("nothing is told of %d", whole)
			}
			for i := range got {
				got[i] = api.Pair{Start: -77, End: 77}
			}
			for range cap(got) + 1 {
				got = append(got, api.Pair{Start: -8, End: 8})
			}
			if !slices.Equal(whole, was) {
				t.Fatalf("a change of what is told changed %d to %d", was, whole)
			}
			if !slices.Equal(want, kept) || !slices.Equal(ask(whole), kept) {
				t.Fatalf("a change of what is told changed what is told of %d elsewhere", was)
			}
			for i := range whole {
				whole[i] = api.Pair{Start: 1000, End: 2000}
			}
			if !slices.Equal(want, kept) {
				t.Fatalf("a change of what was handed in changed what is told of %d", was)
			}
			copy(whole, was)
		}
	}
}

// TestSameCallsHaveTheSameAnswers has other calls between.
func TestSameCallsHaveTheSameAnswers(t *testing.T) {
	for range 3 {
		for _, l := range [][]api.Pair{nil, {}, of(0, 2, 0, 4, 3, 9, 4, 4, 5, 6), of(3, 1, 2, 2), mixed(50, -5, 30)} {
			checkLongest(t, l)
			for _, n := range []int{math.MinInt, -1, 0, 4, 9, math.MaxInt} {
				checkGaps(t, l, n)
				checkFirst(t, l, n)
			}
		}
	}
}

// TestNilAndEmptyAreOne has them handed in with the same answers, from each empty list there is.
func TestNilAndEmptyAreOne(t *testing.T) {
	for _, l := range emptyLists() {
		for _, n := range []int{-1, 0, 1, 5} {
			if got, want := pick.Gaps(l, n), pick.Gaps(nil, n); !slices.Equal(got, want) {
				t.Errorf("Gaps of an empty list, %d is %d, of nil %d", n, got, want)
			}
			one, is := pick.First(l, n)
			two, isTwo := pick.First(nil, n)
			if one != two || is != isTwo {
				t.Errorf("First of an empty list, %d is %d, %t, of nil %d, %t", n, one, is, two, isTwo)
			}
		}
		if len(pick.Longest(l)) != 0 {
			t.Errorf("Longest of an empty list tells %d", pick.Longest(l))
		}
	}
}
