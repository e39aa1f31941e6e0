package pairs_test

import (
	"math"
	"slices"
	"testing"

	"seine/api"
	"seine/pairs"
)

// of is the list of pairs whose numbers stand one behind another.
func of(numbers ...int) []api.Pair {
	var l []api.Pair
	for i := 0; i+1 < len(numbers); i += 2 {
		l = append(l, api.Pair{Start: numbers[i], End: numbers[i+1]})
	}
	return l
}

// ahead is the chapter's order: by Start; those with one Start by End.
func ahead(a, b api.Pair) bool {
	return a.Start < b.Start || a.Start == b.Start && a.End < b.End
}

// inOrder is pairs in order, each once, each put into its place by hand.
func inOrder(l []api.Pair) []api.Pair {
	var row []api.Pair
	for _, p := range l {
		at := 0
		for at < len(row) && ahead(row[at], p) {
			at++
		}
		if at == len(row) || row[at] != p {
			row = slices.Insert(row, at, p)
		}
	}
	return row
}

// edges are numbers at which an order by a difference, or a bound, would break.
func edges() []int {
	return []int{math.MinInt, math.MinInt + 1, -1 << 32, -1 << 31, -2, -1, 0, 1, 2, 1<<31 - 1, 1 << 31, 1 << 32, math.MaxInt - 1, math.MaxInt}
}

// edgePairs are all pairs of the edges, in order; many of them have their Start behind their End.
func edgePairs() []api.Pair {
	var l []api.Pair
	for _, s := range edges() {
		for _, e := range edges() {
			l = append(l, api.Pair{Start: s, End: e})
		}
	}
	return l
}

// turned is a list the other way round.
func turned(l []api.Pair) []api.Pair {
	other := slices.Clone(l)
	slices.Reverse(other)
	return other
}

// mixed is a list (not an empty one) in an order that neither rises nor falls: each step goes a fixed way on, round and round.
func mixed(l []api.Pair) []api.Pair {
	step := 7
	for common(step, len(l)) > 1 {
		step++
	}
	var other []api.Pair
	for i := range l {
		other = append(other, l[i*step%len(l)])
	}
	return other
}

// common is the greatest number that divides both.
func common(a, b int) int {
	for b != 0 {
		a, b = b, a%b
	}
	return a
}

// short are all lists of at most n pairs of five: with one Start, with one End, with neither.
func short(n int) [][]api.Pair {
	all := [][]api.Pair{nil}
	longest := all
	for range n {
		var longer [][]api.Pair
		for _, l := range longest {
			for _, p := range of(0, 0, 0, 1, 1, 0, 1, 1, -1, 2) {
				longer = append(longer, append(slices.Clone(l), p))
			}
		}
		all = append(all, longer...)
		longest = longer
	}
	return all
}

// long are ordinary lists and edges that the short ones don't have.
func long() [][]api.Pair {
	rising := inOrder(edgePairs())
	return [][]api.Pair{
		{},
		slices.Repeat(of(4, 7), 100),
		slices.Repeat(of(4, 7, 4, 6), 50),
		of(2, 3, 0, 5, 2, 2, 0, 5),
		of(9, 1, 9, 2, 9, 3, 9, 4, 9, 5, 9, 6, 9, 7),
		of(1, 9, 2, 9, 3, 9, 4, 9, 5, 9, 6, 9, 7, 9),
		of(1, 10, 1, 9, 10, 1, 9, 1, 1, 1, 10, 10),
		of(-3, -4, -3, 4, 3, -4, 3, 4, -4, -3, -4, 3, 4, -3, 4, 3),
		of(math.MaxInt, math.MinInt, math.MinInt, math.MaxInt, 0, 0),
		rising,
		turned(rising),
		mixed(rising),
		append(mixed(rising), rising...),
		turned(append(slices.Clone(rising), rising...)),
		mixed(slices.Repeat(rising[:61], 3)),
	}
}

// lists are all of them.
func lists() [][]api.Pair { return append(short(5), long()...) }

// P3.1

func TestLess(t *testing.T) {
	for _, x := range []struct {
		a, b api.Pair
		want bool
	}{
		{api.Pair{}, api.Pair{}, false},
		{api.Pair{Start: 1, End: 1}, api.Pair{Start: 1, End: 2}, true},
		{api.Pair{Start: 1, End: 2}, api.Pair{Start: 1, End: 1}, false},
		{api.Pair{Start: 1, End: 9}, api.Pair{Start: 2, End: 2}, true},
		{api.Pair{Start: 2, End: 2}, api.Pair{Start: 1, End: 9}, false},
		{api.Pair{Start: 1, End: 2}, api.Pair{Start: 2, End: 2}, true},
		{api.Pair{Start: 2, End: 2}, api.Pair{Start: 1, End: 2}, false},
		{api.Pair{Start: 7, End: 3}, api.Pair{Start: 7, End: 3}, false},
		{api.Pair{Start: -1, End: 0}, api.Pair{}, true},
		{api.Pair{End: -1}, api.Pair{}, true},
		{api.Pair{}, api.Pair{End: -1}, false},
		{api.Pair{Start: math.MinInt}, api.Pair{Start: math.MaxInt}, true},
		{api.Pair{Start: math.MaxInt}, api.Pair{Start: math.MinInt}, false},
		{api.Pair{End: math.MinInt}, api.Pair{End: math.MaxInt}, true},
		{api.Pair{End: math.MaxInt}, api.Pair{End: math.MinInt}, false},
	} {
		if got := pairs.Less(x.a, x.b); got != x.want {
			t.Errorf("Less(%v, %v) is %t", x.a, x.b, got)
		}
	}
}

func TestLessOfEdges(t *testing.T) {
	for _, a := range edgePairs() {
		for _, b := range edgePairs() {
			if got, want := pairs.Less(a, b), ahead(a, b); got != want {
				t.Errorf("Less(%v, %v) is %t", a, b, got)
			}
		}
	}
}

func TestRising(t *testing.T) {
	for _, x := range []struct {
		l    []api.Pair
		want bool
	}{
		{nil, true},
		{[]api.Pair{}, true},
		{of(0, 0), true},
		{of(9, -9), true},
		{of(0, 0, 0, 0), false},
		{of(0, 0, 0, 1), true},
		{of(0, 1, 0, 0), false},
		{of(0, 9, 1, 0), true},
		{of(1, 0, 0, 9), false},
		{of(-1, 0, 0, 0, 1, 0), true},
		{of(0, 1, 0, 2, 0, 3, 1, 1, 1, 2), true},
		{of(0, 1, 0, 2, 0, 3, 1, 1, 1, 1), false},
		{of(0, 1, 0, 1, 0, 3, 1, 1, 1, 2), false},
		{of(0, 1, 0, 3, 0, 2, 1, 1, 1, 2), false},
		{of(1, 1, 0, 0, 2, 2), false},
		{of(0, 0, 2, 2, 1, 1), false},
		{of(math.MinInt, math.MaxInt, 0, 0, math.MaxInt, math.MinInt), true},
		{of(math.MaxInt, math.MinInt, math.MinInt, math.MaxInt), false},
	} {
		if got := pairs.Rising(x.l); got != x.want {
			t.Errorf("Rising(%v) is %t", x.l, got)
		}
	}
}

// A list rises just if putting its pairs in order, each once, leaves it as it is.
func TestRisingIsTheWords(t *testing.T) {
	for _, l := range lists() {
		if got, want := pairs.Rising(l), slices.Equal(inOrder(l), l); got != want {
			t.Errorf("Rising(%v) is %t", l, got)
		}
	}
}

// One place alone where it doesn't rise, wherever that is.
func TestRisingLooksAtEachPair(t *testing.T) {
	rising := inOrder(edgePairs())
	if !pairs.Rising(rising) {
		t.Fatal("the edges don't rise")
	}
	for i := 1; i < len(rising); i++ {
		twice := slices.Clone(rising)
		twice[i] = twice[i-1]
		swapped := slices.Clone(rising)
		swapped[i], swapped[i-1] = swapped[i-1], swapped[i]
		if pairs.Rising(twice) || pairs.Rising(swapped) {
			t.Errorf("at %d", i)
		}
	}
}

// P3.2

func TestSort(t *testing.T) {
	for _, x := range []struct{ l, want []api.Pair }{
		{nil, nil},
		{[]api.Pair{}, nil},
		{of(3, 1), of(3, 1)},
		{of(3, 1, 3, 1), of(3, 1)},
		{of(3, 1, 3, 1, 3, 1, 3, 1, 3, 1), of(3, 1)},
		{of(2, 3, 0, 5, 2, 2, 0, 5), of(0, 5, 2, 2, 2, 3)},
		{of(0, 1, 2, 3), of(0, 1, 2, 3)},
		{of(2, 3, 0, 1), of(0, 1, 2, 3)},
		{of(1, 2, 0, 0, 1, 2), of(0, 0, 1, 2)},
		{of(0, 0, 1, 2, 0, 0), of(0, 0, 1, 2)},
		{of(5, 3, 5, 2, 5, 1, 5, 2), of(5, 1, 5, 2, 5, 3)},
		{of(3, 5, 2, 5, 1, 5, 2, 5), of(1, 5, 2, 5, 3, 5)},
		{of(0, 0, -1, 5, -1, -5, 0, -1), of(-1, -5, -1, 5, 0, -1, 0, 0)},
		{of(9, 1, 1, 9, 10, 0), of(1, 9, 9, 1, 10, 0)},
		{of(math.MaxInt, math.MinInt, 0, 0, math.MinInt, math.MaxInt, math.MinInt, math.MinInt),
			of(math.MinInt, math.MinInt, math.MinInt, math.MaxInt, 0, 0, math.MaxInt, math.MinInt)},
	} {
		if got := pairs.Sort(x.l); !slices.Equal(got, x.want) {
			t.Errorf("Sort(%v) is %v, not %v", x.l, got, x.want)
		}
	}
}

func TestSortIsTheWords(t *testing.T) {
	for _, l := range lists() {
		if got, want := pairs.Sort(l), inOrder(l); !slices.Equal(got, want) {
			t.Errorf("Sort(%v) is %v, not %v", l, got, want)
		}
	}
}

func TestSortOfMany(t *testing.T) {
	want := pairs.Empties(50000)
	got := pairs.Sort(append(mixed(want), turned(want)...))
	if !slices.Equal(got, want) {
		t.Errorf("%d pairs, not %d", len(got), len(want))
	}
}

func TestMerge(t *testing.T) {
	for _, x := range []struct{ a, b, want []api.Pair }{
		{nil, nil, nil},
		{[]api.Pair{}, nil, nil},
		{of(1, 2), nil, of(1, 2)},
		{nil, of(1, 2), of(1, 2)},
		{of(1, 2), of(1, 2), of(1, 2)},
		{of(1, 2, 1, 2), nil, of(1, 2)},
		{[]api.Pair{}, of(1, 2, 1, 2), of(1, 2)},
		{of(1, 2, 1, 2), of(1, 2, 1, 2, 1, 2), of(1, 2)},
		{of(5, 6, 0, 1), of(0, 1, 2, 2), of(0, 1, 2, 2, 5, 6)},
		{of(3, 3, 2, 2, 1, 1), nil, of(1, 1, 2, 2, 3, 3)},
		{of(0, 0, 2, 2, 4, 4), of(1, 1, 3, 3, 5, 5), of(0, 0, 1, 1, 2, 2, 3, 3, 4, 4, 5, 5)},
		{of(0, 0, 1, 1), of(8, 8, 9, 9), of(0, 0, 1, 1, 8, 8, 9, 9)},
		{of(8, 8, 9, 9), of(0, 0, 1, 1), of(0, 0, 1, 1, 8, 8, 9, 9)},
		{of(0, 0, 9, 9), of(9, 9, 3, 3), of(0, 0, 3, 3, 9, 9)},
		{of(1, 3, 1, 1), of(1, 2, 1, 3, 1, 0), of(1, 0, 1, 1, 1, 2, 1, 3)},
		{of(-1, 1, 4, -4), of(-1, -1, -2, 9), of(-2, 9, -1, -1, -1, 1, 4, -4)},
		{of(math.MaxInt, math.MinInt), of(math.MinInt, math.MaxInt, math.MaxInt, math.MaxInt),
			of(math.MinInt, math.MaxInt, math.MaxInt, math.MinInt, math.MaxInt, math.MaxInt)},
	} {
		if got := pairs.Merge(x.a, x.b); !slices.Equal(got, x.want) {
			t.Errorf("Merge(%v, %v) is %v, not %v", x.a, x.b, got, x.want)
		}
	}
}

// P3.2, and that of P3.4 which speaks of Merge.
func TestMergeIsTheWords(t *testing.T) {
	some := append(short(3), long()...)
	for _, a := range some {
		for _, b := range some {
			want := inOrder(slices.Concat(a, b))
			got, other := pairs.Merge(a, b), pairs.Merge(b, a)
			if !slices.Equal(got, want) || !slices.Equal(other, want) {
				t.Errorf("Merge(%v, %v) is %v, the other way round %v, not %v", a, b, got, other, want)
			}
		}
	}
}

// P3.3

func TestFits(t *testing.T) {
	for _, x := range []struct {
		l    []api.Pair
		n    int
		want bool
	}{
		{nil, 0, true},
		{nil, 9, true},
		{nil, -1, true},
		{[]api.Pair{}, math.MinInt, true},
		{of(0, 0), 0, true},
		{of(0, 0), 1, true},
		{of(0, 0), -1, false},
		{of(0, 0), math.MinInt, false},
		{of(0, 1), 0, false},
		{of(0, 1), 1, true},
		{of(1, 1), 1, true},
		{of(1, 1), 0, false},
		{of(3, 3), 3, true},
		{of(3, 4), 3, false},
		{of(2, 1), 9, false},
		{of(9, 8), 8, false},
		{of(1, 0), 0, false},
		{of(-1, 3), 9, false},
		{of(-1, -1), 9, false},
		{of(-1, -1), -1, false},
		{of(-5, -4), -3, false},
		{of(0, -1), 9, false},
		{of(0, 9, 3, 4, 0, 9), 9, true},
		{of(5, 6, 0, 1, 5, 6), 6, true},
		{of(-1, 0, 1, 1, 2, 2), 2, false},
		{of(1, 1, 2, 1, 2, 2), 2, false},
		{of(1, 1, 2, 2, 2, 3), 2, false},
		{of(0, math.MaxInt), math.MaxInt, true},
		{of(math.MaxInt, math.MaxInt), math.MaxInt, true},
		{of(math.MaxInt, math.MaxInt), math.MaxInt - 1, false},
		{of(math.MaxInt, math.MinInt), math.MaxInt, false},
		{of(math.MinInt, math.MaxInt), math.MaxInt, false},
		{of(math.MinInt, math.MinInt), math.MinInt, false},
		{of(0, api.MaxLine), api.MaxLine, true},
		{of(0, api.MaxLine+1), api.MaxLine, false},
	} {
		if got := pairs.Fits(x.l, x.n); got != x.want {
			t.Errorf("Fits(%v, %d) is %t", x.l, x.n, got)
		}
	}
}

// Of one pair, and of it among others that fit: ahead of them, between them, behind them.
func TestFitsIsTheWords(t *testing.T) {
	for _, n := range edges() {
		for _, p := range edgePairs() {
			want := p.Start >= 0 && p.End >= p.Start && n >= p.End
			if got := pairs.Fits([]api.Pair{p}, n); got != want {
				t.Errorf("Fits(%v, %d) is %t", p, n, got)
			}
			if n < 0 {
				continue
			}
			for at := range 3 {
				l := slices.Insert(of(0, n, n, n), at, p)
				if got := pairs.Fits(l, n); got != want {
					t.Errorf("Fits(%v, %d) is %t", l, n, got)
				}
			}
		}
	}
}

func TestEmpties(t *testing.T) {
	for _, x := range []struct {
		n    int
		want []api.Pair
	}{
		{math.MinInt, nil},
		{-1 << 31, nil},
		{-2, nil},
		{-1, nil},
		{0, of(0, 0)},
		{1, of(0, 0, 1, 1)},
		{2, of(0, 0, 1, 1, 2, 2)},
		{5, of(0, 0, 1, 1, 2, 2, 3, 3, 4, 4, 5, 5)},
	} {
		if got := pairs.Empties(x.n); !slices.Equal(got, x.want) {
			t.Errorf("Empties(%d) is %v, not %v", x.n, got, x.want)
		}
	}
}

func TestEmptiesIsTheWords(t *testing.T) {
	for _, n := range []int{0, 1, 7, 8, 9, api.MaxLine - 1, api.MaxLine, api.MaxLine + 1, api.MaxInput} {
		got := pairs.Empties(n)
		if len(got) != n+1 || !pairs.Rising(got) || !pairs.Fits(got, n) || pairs.Fits(got, n-1) {
			t.Errorf("Empties(%d) has %d pairs", n, len(got))
		}
		for i, p := range got {
			if p.Start != i || p.End != i {
				t.Fatalf("Empties(%d): pair %d is %v", n, i, p)
			}
		}
	}
}

// Beyond the document's limits some answer is enough, but the call ends and doesn't panic (rule 1).
func TestEmptiesOfTooMany(t *testing.T) {
	for _, n := range []int{1<<31 - 1, 1 << 31, 1 << 32, 1 << 47, 1 << 60, math.MaxInt - 1, math.MaxInt} {
		if got := pairs.Empties(n); len(got) != 0 {
			t.Errorf("Empties(%d) has %d pairs", n, len(got))
		}
	}
}

// P3.4

func TestSortedRisesAndStays(t *testing.T) {
	for _, l := range lists() {
		once := pairs.Sort(l)
		twice := pairs.Sort(once)
		if !pairs.Rising(once) || !slices.Equal(once, twice) {
			t.Errorf("%v: %v, then %v", l, once, twice)
		}
		if merged := pairs.Merge(once, l); !slices.Equal(merged, once) {
			t.Errorf("%v with itself, sorted: %v", l, merged)
		}
	}
}

// DOC.md, rules 3 and 4

// withRoom is a list with others behind it, where there is room; they aren't the function's to change either.
func withRoom(l []api.Pair) (room, part []api.Pair) {
	room = append(slices.Clone(l), of(-7, 7, 7, -7, 0, 0)...)
	return room, room[:len(l)]
}

func TestNothingHandedInIsChanged(t *testing.T) {
	for _, l := range lists() {
		roomA, a := withRoom(l)
		roomB, b := withRoom(turned(l))
		wasA, wasB := slices.Clone(roomA), slices.Clone(roomB)
		pairs.Sort(a)
		pairs.Merge(a, b)
		pairs.Merge(a, nil)
		pairs.Merge(nil, b)
		pairs.Rising(a)
		pairs.Fits(a, 1)
		if !slices.Equal(roomA, wasA) || !slices.Equal(roomB, wasB) {
			t.Errorf("%v and %v were changed to %v and %v", wasA, wasB, roomA, roomB)
		}
	}
}

// spoil changes all pairs of a list, and those behind it where there is room.
func spoil(l []api.Pair) {
	l = l[:cap(l)]
	for i := range l {
		l[i] = api.Pair{Start: -99, End: -99}
	}
}

// isNew tells whether an answer neither is changed by changes of what was handed in nor changes it.
func isNew(ask func(a, b []api.Pair) []api.Pair, a, b []api.Pair) bool {
	roomA, partA := withRoom(a)
	roomB, partB := withRoom(b)
	wasA, wasB := slices.Clone(roomA), slices.Clone(roomB)
	got, other := ask(partA, partB), ask(partA, partB)
	want := slices.Clone(got)
	spoil(got)
	if !slices.Equal(roomA, wasA) || !slices.Equal(roomB, wasB) || !slices.Equal(other, want) {
		return false
	}
	spoil(roomA)
	spoil(roomB)
	return slices.Equal(other, want)
}

func TestAnswersAreNewMemory(t *testing.T) {
	sorted := func(a, _ []api.Pair) []api.Pair { return pairs.Sort(a) }
	for _, l := range lists() {
		// A list in order, alone or beside an empty one, is the one that might be handed back.
		for _, a := range [][]api.Pair{l, inOrder(l)} {
			if !isNew(sorted, a, nil) {
				t.Errorf("Sort(%v) shares memory", a)
			}
			if !isNew(pairs.Merge, a, nil) || !isNew(pairs.Merge, nil, a) || !isNew(pairs.Merge, a, a) {
				t.Errorf("Merge of %v shares memory", a)
			}
			if !isNew(pairs.Merge, a, of(0, 0, 5, 5)) || !isNew(pairs.Merge, of(0, 0, 5, 5), a) {
				t.Errorf("Merge of %v and two more shares memory", a)
			}
		}
	}
}

func TestOneListTwice(t *testing.T) {
	l := of(3, 3, 1, 1, 3, 3)
	got := pairs.Merge(l, l)
	l[0] = api.Pair{}
	if !slices.Equal(got, of(1, 1, 3, 3)) {
		t.Errorf("%v", got)
	}
}

func TestEmptiesIsNewMemory(t *testing.T) {
	for _, n := range []int{0, 1, 5} {
		got, other := pairs.Empties(n), pairs.Empties(n)
		want := slices.Clone(got)
		spoil(got)
		if !slices.Equal(other, want) || !slices.Equal(pairs.Empties(n), want) {
			t.Errorf("Empties(%d) shares memory", n)
		}
	}
}
