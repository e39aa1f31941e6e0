package meter_test

import (
	"bytes"
	"fmt"
	"math"
	"slices"
	"testing"

	"seine/meter"
)

// counted holds what a meter counted against what it has to tell.
func counted(t *testing.T, name string, m *meter.Meter, want meter.Counts) {
	t.Helper()
	if got := m.Counts(); got != want {
		t.Errorf("%s: %+v, not %+v", name, got, want)
	}
}

// both is a new meter and a nil one, whose handles answer the same.
func both() map[string]*meter.Meter {
	return map[string]*meter.Meter{"a new meter": meter.New(), "a nil meter": nil}
}

// of is a count if there is a meter to count it.
func of(m *meter.Meter, c meter.Counts) meter.Counts {
	if m == nil {
		return meter.Counts{}
	}
	return c
}

// every is each byte once.
func every() []byte {
	var b []byte
	for c := range 256 {
		b = append(b, byte(c))
	}
	return b
}

// texts are ordinary ones, and edges.
func texts() [][]byte {
	return [][]byte{
		nil,
		{},
		{0},
		{255},
		[]byte("ab"),
		[]byte("a\nb\n\n"),
		[]byte("\x00\xff\x80\x7f"),
		[]byte("\xc3\x84 Seine"),
		every(),
		bytes.Repeat([]byte("seine"), 1000),
	}
}

// missing are places that a text of so many bytes doesn't have.
func missing(n int) []int {
	return []int{-1, -2, -n - 1, n, n + 1, 2*n + 1, 1 << 31, 1 << 32, 1<<32 + 1, math.MaxInt, math.MinInt, math.MinInt + 1}
}

// withRoom is a text with bytes behind it, where there is room; they are no part of it.
func withRoom(b []byte) (room, part []byte) {
	room = append(slices.Clone(b), "Tail"...)
	return room, room[:len(b)]
}

// spoil changes all bytes of a text, and those behind it where there is room.
func spoil(b []byte) {
	b = b[:cap(b)]
	for i := range b {
		b[i] ^= 0x5a
	}
}

// P5.1

func TestNewCountedNothing(t *testing.T) {
	m := meter.New()
	if m == nil {
		t.Fatal("New is nil")
	}
	counted(t, "New", m, meter.Counts{})
	counted(t, "New, asked once more", m, meter.Counts{})
}

// The fields are four, in this order, so they can be written without names.
func TestCountsFields(t *testing.T) {
	c := meter.Counts{1, 2, 3, 4}
	if c.Scan != 1 || c.Look != 2 || c.Hunt != 3 || c.Move != 4 {
		t.Error(c)
	}
}

// Making a handle, and asking how long a text is, is no reading.
func TestHandlesAloneCountNothing(t *testing.T) {
	m := meter.New()
	m.Text([]byte("abc")).Len()
	m.Text(nil).Len()
	m.Sparse()
	m.Sparse(meter.Row{State: 0, Byte: 'a', To: 1})
	m.Dense([256]int{}, 1, []int{1, 2})
	m.Counts()
	counted(t, "handles", m, meter.Counts{})
}

func TestScanCountsBytesThatAtAnswered(t *testing.T) {
	m := meter.New()
	x := m.Text([]byte("ab"))
	for _, step := range []struct{ i, scan int }{
		{0, 1}, {5, 1}, {-1, 1}, {1, 2}, {2, 2}, {1, 3}, {0, 4}, {math.MinInt, 4}, {math.MaxInt, 4},
	} {
		x.At(step.i)
		counted(t, fmt.Sprintf("At(%d)", step.i), m, meter.Counts{Scan: step.scan})
	}
}

// A byte is one though its number is 0.
func TestNoughtsAreCounted(t *testing.T) {
	m := meter.New()
	m.Text([]byte{0}).At(0)
	m.Read([]byte{0}, 0)
	m.Copy(make([]byte, 1), []byte{0})
	m.Sparse(meter.Row{}).Look(0, 0)
	counted(t, "noughts", m, meter.Counts{Scan: 1, Look: 1, Hunt: 1, Move: 1})
}

func TestLookCountsEachCall(t *testing.T) {
	m := meter.New()
	n := 0
	for _, table := range []*meter.Table{
		m.Sparse(),
		m.Sparse(meter.Row{State: 0, Byte: 'a', To: 1}),
		m.Dense([256]int{'b': 1, 'c': -1}, 1, []int{0}),
		m.Dense([256]int{}, 0, nil),
		m.Dense([256]int{}, -3, []int{1}),
	} {
		for _, state := range []int{0, 1, -1, math.MaxInt, math.MinInt} {
			for _, c := range []byte("abc\x00\xff") {
				table.Look(state, c)
				n++
				counted(t, fmt.Sprintf("Look(%d, %d)", state, c), m, meter.Counts{Look: n})
			}
		}
	}
}

func TestHuntCountsBytesThatReadAnswered(t *testing.T) {
	m := meter.New()
	for _, step := range []struct{ i, hunt int }{
		{0, 1}, {5, 1}, {-1, 1}, {1, 2}, {2, 2}, {1, 3}, {0, 4}, {math.MinInt, 4}, {math.MaxInt, 4},
	} {
		m.Read([]byte("ab"), step.i)
		counted(t, fmt.Sprintf("Read(%d)", step.i), m, meter.Counts{Hunt: step.hunt})
	}
	m.Read(nil, 0)
	counted(t, "Read of nothing", m, meter.Counts{Hunt: 4})
}

func TestMoveCountsBytes(t *testing.T) {
	m := meter.New()
	for _, step := range []struct{ to, from, move int }{
		{2, 3, 2}, {3, 2, 4}, {0, 3, 4}, {3, 0, 4}, {0, 0, 4}, {1, 1, 5}, {1000, 500, 505},
	} {
		m.Copy(make([]byte, step.to), make([]byte, step.from))
		counted(t, fmt.Sprintf("Copy of %d to %d", step.from, step.to), m, meter.Counts{Move: step.move})
	}
}

// What Counts told stays as it was, and whoever changes it changes no meter.
func TestCountsAreToldAsTheyAreThen(t *testing.T) {
	m := meter.New()
	x := m.Text([]byte("a"))
	x.At(0)
	told := m.Counts()
	x.At(0)
	if told != (meter.Counts{Scan: 1}) {
		t.Error(told)
	}
	told.Scan = 99
	counted(t, "changed", m, meter.Counts{Scan: 2})
}

func TestNilMeterCountsNothing(t *testing.T) {
	var m *meter.Meter
	counted(t, "nil", m, meter.Counts{})
	m.Text([]byte("ab")).At(1)
	m.Sparse(meter.Row{State: 1, Byte: 'a', To: 2}).Look(1, 'a')
	m.Dense([256]int{}, 1, []int{3}).Look(0, 'a')
	m.Read([]byte("ab"), 1)
	m.Copy(make([]byte, 2), []byte("ab"))
	counted(t, "nil, with handles", m, meter.Counts{})
}

// P5.2

func TestText(t *testing.T) {
	for name, m := range both() {
		scans := 0
		for _, b := range texts() {
			x := m.Text(b)
			if x.Len() != len(b) {
				t.Errorf("%s, %.20q: %d bytes", name, b, x.Len())
			}
			for i, c := range b {
				if got := x.At(i); got != int(c) {
					t.Errorf("%s, %.20q: At(%d) is %d", name, b, i, got)
				}
			}
			for _, i := range missing(len(b)) {
				if got := x.At(i); got != -1 {
					t.Errorf("%s, %.20q: At(%d) is %d", name, b, i, got)
				}
			}
			scans += len(b)
		}
		counted(t, name, m, of(m, meter.Counts{Scan: scans}))
	}
}

func TestNilText(t *testing.T) {
	var x *meter.Text
	if x.Len() != 0 {
		t.Errorf("%d bytes", x.Len())
	}
	for _, i := range append(missing(3), 0, 1) {
		if got := x.At(i); got != -1 {
			t.Errorf("At(%d) is %d", i, got)
		}
	}
}

// How long a text is counts, not how much room there is behind it.
func TestTextEndsAtItsLength(t *testing.T) {
	m := meter.New()
	_, part := withRoom([]byte("ab"))
	x := m.Text(part)
	if x.Len() != 2 || x.At(2) != -1 || x.At(5) != -1 {
		t.Error(x.Len(), x.At(2), x.At(5))
	}
	counted(t, "behind the text", m, meter.Counts{})
}

func TestTextIsOfThen(t *testing.T) {
	for name, m := range both() {
		own := []byte("abc")
		x := m.Text(own)
		if x.At(0) != 'a' {
			t.Errorf("%s: %d", name, x.At(0))
		}
		spoil(own)
		y := m.Text(own)
		for i, c := range []byte("abc") {
			if x.At(i) != int(c) || y.At(i) != int(c^0x5a) {
				t.Errorf("%s: At(%d) is %d, of the later handle %d", name, i, x.At(i), y.At(i))
			}
		}
	}
}

// P5.3

// lastRow is the words: To of the last row with that State and Byte.
func lastRow(l []meter.Row, state int, c byte) int {
	for _, r := range slices.Backward(l) {
		if r.State == state && r.Byte == c {
			return r.To
		}
	}
	return -1
}

// rows are lists of them: none, one, several of one State and Byte, and whatever numbers.
func rows() [][]meter.Row {
	var many []meter.Row
	for i := range 2000 {
		many = append(many, meter.Row{State: i * 7 % 31, Byte: byte(i * 13 % 64), To: i})
	}
	return [][]meter.Row{
		nil,
		{},
		{{}},
		{{0, 'a', 1}, {0, 'a', 2}},
		{{0, 'a', 2}, {0, 'a', 1}},
		{{0, 'a', 1}, {0, 'b', 2}, {1, 'a', 3}, {0, 'a', 4}, {1, 'b', 5}},
		{{0, 'a', 5}, {0, 'a', 0}},
		{{0, 'a', 5}, {0, 'a', -1}},
		{{0, 'a', -1}, {0, 'a', 5}},
		{{-1, 'a', 7}, {-2, 'a', 8}, {1, 'a', 9}},
		{{math.MinInt, 0, math.MaxInt}, {math.MaxInt, 255, math.MinInt}},
		{{3, 0, 1}, {3, 255, 2}, {2, 255, 3}, {4, 0, 4}},
		{{1 << 8, 0, 1}, {0, 1, 2}, {1 << 32, 1, 3}, {1<<32 + 1, 0, 4}},
		many,
	}
}

// states are those that are asked for, of any list.
func states() []int {
	l := []int{math.MinInt, math.MinInt + 1, math.MaxInt, math.MaxInt - 1, 1 << 8, 1 << 32, 1<<32 + 1}
	for i := -3; i < 33; i++ {
		l = append(l, i)
	}
	return l
}

func TestSparse(t *testing.T) {
	for name, m := range both() {
		looks := 0
		for _, l := range rows() {
			table := m.Sparse(l...)
			for _, state := range states() {
				for _, c := range every() {
					if got, want := table.Look(state, c), lastRow(l, state, c); got != want {
						t.Errorf("%s, %.3v: Look(%d, %d) is %d, not %d", name, l, state, c, got, want)
					}
					looks++
				}
			}
		}
		counted(t, name, m, of(m, meter.Counts{Look: looks}))
	}
}

func TestSparseOfNoRow(t *testing.T) {
	m := meter.New()
	for _, table := range []*meter.Table{m.Sparse(), m.Sparse([]meter.Row(nil)...), m.Sparse([]meter.Row{}...)} {
		if got := table.Look(0, 0); got != -1 {
			t.Error(got)
		}
	}
	counted(t, "no row", m, meter.Counts{Look: 3})
}

// dense is a table's numbers.
type dense struct {
	class [256]int
	width int
	next  []int
}

// look is the words: next at its place; the greatest numbers are sorted out ahead of a product that might not fit.
func (d dense) look(state int, c byte) int {
	k := d.class[c]
	if state < 0 || k < 0 || k >= d.width {
		return -1
	}
	// A state beyond next's length has no place there, as a row has a place at least.
	if state > len(d.next) || d.width > len(d.next) && state > 0 || k >= len(d.next) {
		return -1
	}
	if place := state*d.width + k; place < len(d.next) {
		return d.next[place]
	}
	return -1
}

// row is so many numbers, each of which tells its place.
func row(n int) []int {
	var l []int
	for i := range n {
		l = append(l, 1000+i)
	}
	return l
}

// tables are ordinary ones, and edges: no width, one below 0, classes that may not be, a next that is too short, too great numbers.
func tables() []dense {
	class := [256]int{'a': 1, 'b': 2, 'c': -1, 'd': 3, 'e': math.MinInt, 'f': math.MaxInt, 'g': math.MaxInt - 1, 'h': 1 << 62, 'i': 5, 255: 2}
	var own [256]int
	for c := range own {
		own[c] = c
	}
	var l []dense
	for _, width := range []int{0, 1, 2, 3, 4, 6, 7, -1, -3, math.MinInt, math.MaxInt, math.MaxInt - 1, 1 << 62, 1 << 61, 1 << 32, 1<<32 + 1} {
		for _, n := range []int{0, 1, 2, 3, 5, 6, 7, 20} {
			l = append(l, dense{class, width, row(n)})
		}
	}
	return append(l,
		dense{own, 256, row(3 * 256)},
		dense{own, 256, row(2*256 + 100)},
		dense{own, 255, row(1000)},
		dense{own, 16, row(100)},
		dense{[256]int{}, 1, []int{-1, 0, -7, math.MaxInt, math.MinInt}},
		dense{[256]int{}, 1, nil},
	)
}

func TestDense(t *testing.T) {
	l := append(states(), 1<<60, 1<<61, 1<<62, 1<<62+1, math.MaxInt/3, math.MaxInt/3+1, math.MaxInt/2+1, math.MaxInt/7+1)
	for name, m := range both() {
		looks := 0
		for _, d := range tables() {
			table := m.Dense(d.class, d.width, d.next)
			for _, state := range l {
				for _, c := range every() {
					if got, want := table.Look(state, c), d.look(state, c); got != want {
						t.Errorf("%s, width %d, %d places: Look(%d, %d) is %d, not %d", name, d.width, len(d.next), state, c, got, want)
					}
					looks++
				}
			}
		}
		counted(t, name, m, of(m, meter.Counts{Look: looks}))
	}
}

func TestDensePlaces(t *testing.T) {
	class := [256]int{'a': 1, 'b': 2, 'c': -1, 'd': 3}
	table := meter.New().Dense(class, 3, []int{10, 11, 12, 20, 21})
	for _, x := range []struct {
		state int
		c     byte
		want  int
	}{
		{0, 'z', 10}, {0, 'a', 11}, {0, 'b', 12},
		{1, 'z', 20}, {1, 'a', 21}, {1, 'b', -1},
		{2, 'z', -1}, {3, 'z', -1},
		{0, 'c', -1}, {1, 'c', -1}, {0, 'd', -1},
		{-1, 'z', -1}, {-1, 'a', -1}, {-1, 'b', -1},
		{math.MaxInt, 'a', -1}, {math.MinInt, 'z', -1},
	} {
		if got := table.Look(x.state, x.c); got != x.want {
			t.Errorf("Look(%d, %q) is %d, not %d", x.state, x.c, got, x.want)
		}
	}
}

// Each of these comes round to a place of next, if state times width, or what is added to it, is cut off at 64 bits.
func TestDenseOfGreatNumbers(t *testing.T) {
	for _, x := range []struct{ state, width, class int }{
		{4, 1 << 62, 0},
		{4, 1 << 62, 2},
		{1 << 62, 4, 1},
		{1 << 32, 1 << 32, 3},
		{1 << 61, 8, 7},
		{2, math.MaxInt, 2},
		{2, math.MaxInt, 5},
		{math.MaxInt, 2, 1},
		{math.MaxInt, math.MaxInt, 0},
		{math.MaxInt, math.MaxInt, 3},
		{1, math.MaxInt, math.MaxInt - 1},
		{0, math.MaxInt, math.MaxInt - 1},
		{1, math.MaxInt, 0},
		{3, math.MaxInt/3 + 1, 0},
		{6, math.MaxInt/3 + 1, 0},
	} {
		m := meter.New()
		table := m.Dense([256]int{'x': x.class}, x.width, row(10))
		if got := table.Look(x.state, 'x'); got != -1 {
			t.Errorf("state %d, width %d, class %d: %d", x.state, x.width, x.class, got)
		}
		counted(t, "great numbers", m, meter.Counts{Look: 1})
	}
}

// Of a row that is wider than next, the places that next has are there.
func TestDenseOfAWideRow(t *testing.T) {
	for _, width := range []int{10, 11, 1 << 40, math.MaxInt} {
		table := meter.New().Dense([256]int{'a': 9, 'b': 10}, width, row(10))
		for c, want := range map[byte]int{0: 1000, 'a': 1009, 'b': -1} {
			if got := table.Look(0, c); got != want {
				t.Errorf("width %d: Look(0, %d) is %d, not %d", width, c, got, want)
			}
		}
	}
}

// How long next is counts, not how much room there is behind it.
func TestDenseEndsAtNextsLength(t *testing.T) {
	table := meter.New().Dense([256]int{'a': 1}, 2, row(10)[:3])
	if table.Look(1, 'x') != 1002 || table.Look(1, 'a') != -1 || table.Look(2, 'x') != -1 {
		t.Error(table.Look(1, 'x'), table.Look(1, 'a'), table.Look(2, 'x'))
	}
}

func TestNilTable(t *testing.T) {
	var table *meter.Table
	for _, state := range states() {
		for _, c := range every() {
			if got := table.Look(state, c); got != -1 {
				t.Errorf("Look(%d, %d) is %d", state, c, got)
			}
		}
	}
}

// P5.4

func TestRead(t *testing.T) {
	for name, m := range both() {
		hunts := 0
		for _, b := range texts() {
			for i, want := range b {
				if c, is := m.Read(b, i); c != want || !is {
					t.Errorf("%s: Read(%.20q, %d) is %d, %t", name, b, i, c, is)
				}
			}
			for _, i := range missing(len(b)) {
				if c, is := m.Read(b, i); c != 0 || is {
					t.Errorf("%s: Read(%.20q, %d) is %d, %t", name, b, i, c, is)
				}
			}
			hunts += len(b)
		}
		counted(t, name, m, of(m, meter.Counts{Hunt: hunts}))
	}
}

// How long a text is counts, and its bytes are those that it has at each call.
func TestReadIsOfEachCall(t *testing.T) {
	m := meter.New()
	_, part := withRoom([]byte("ab"))
	if c, is := m.Read(part, 2); c != 0 || is {
		t.Error(c, is)
	}
	part[1] = 'x'
	if c, is := m.Read(part, 1); c != 'x' || !is {
		t.Error(c, is)
	}
	counted(t, "two calls", m, meter.Counts{Hunt: 1})
}

func TestCopy(t *testing.T) {
	for name, m := range both() {
		moved := 0
		for _, from := range texts() {
			for _, size := range []int{0, 1, 2, 3, 4, 5, 255, 256, 257, 5000, 6000} {
				to := bytes.Repeat([]byte{'-'}, size)
				n := min(size, len(from))
				want := slices.Concat(from[:n], to[n:])
				source := slices.Clone(from)
				if got := m.Copy(to, source); got != n {
					t.Errorf("%s: Copy of %d to %d is %d", name, len(from), size, got)
				}
				if !bytes.Equal(to, want) || !bytes.Equal(source, from) {
					t.Errorf("%s: Copy of %.20q: %.20q, of %.20q", name, from, to, source)
				}
				moved += n
			}
		}
		counted(t, name, m, of(m, meter.Counts{Move: moved}))
	}
}

func TestCopyOfNothing(t *testing.T) {
	for name, m := range both() {
		to := []byte("ab")
		for _, n := range []int{m.Copy(nil, nil), m.Copy(nil, to), m.Copy(to, nil), m.Copy(to[:0], to), m.Copy(to, []byte{})} {
			if n != 0 {
				t.Errorf("%s: %d bytes", name, n)
			}
		}
		if string(to) != "ab" {
			t.Errorf("%s: %q", name, to)
		}
		counted(t, name, m, meter.Counts{})
	}
}

// Room behind a list's length is none.
func TestCopyEndsAtLengths(t *testing.T) {
	m := meter.New()
	room, to := withRoom([]byte("--"))
	_, from := withRoom([]byte("abc"))
	if n := m.Copy(to, from); n != 2 || string(room) != "abTail" {
		t.Errorf("%d, %q", n, room)
	}
	whole := make([]byte, 9)
	if n := m.Copy(whole, from); n != 3 || string(whole) != "abc\x00\x00\x00\x00\x00\x00" {
		t.Errorf("%d, %q", n, whole)
	}
}

// The bytes that come to the front are those that from had ahead of the call, though it is the same memory.
func TestCopyWithinOneMemory(t *testing.T) {
	for _, x := range []struct {
		to, from, end int
		want          string
		n             int
	}{
		{0, 0, 6, "abcdef", 6},
		{0, 2, 6, "cdefef", 4},
		{2, 0, 6, "ababcd", 4},
		{1, 0, 3, "aabcef", 3},
		{5, 0, 6, "abcdea", 1},
		{6, 0, 6, "abcdef", 0},
	} {
		for name, m := range both() {
			b := []byte("abcdef")
			if n := m.Copy(b[x.to:], b[x.from:x.end]); n != x.n || string(b) != x.want {
				t.Errorf("%s, from %d to %d: %d, %q", name, x.from, x.to, n, b)
			}
			counted(t, name, m, of(m, meter.Counts{Move: x.n}))
		}
	}
}

// Neither list is kept: what is changed later is changed in one alone.
func TestCopyKeepsNothing(t *testing.T) {
	m := meter.New()
	to, from := make([]byte, 3), []byte("abc")
	m.Copy(to, from)
	spoil(from)
	if string(to) != "abc" {
		t.Errorf("%q", to)
	}
	from = []byte("xyz")
	m.Copy(to, from)
	spoil(to)
	if string(from) != "xyz" {
		t.Errorf("%q", from)
	}
}

// P5.5

// use does so many of each thing through a meter.
func use(m *meter.Meter, scan, look, hunt, move int) {
	x := m.Text([]byte("a"))
	sparse, dense := m.Sparse(meter.Row{State: 0, Byte: 'a', To: 0}), m.Dense([256]int{}, 1, []int{0})
	for range scan {
		x.At(0)
	}
	for i := range look {
		if i%2 == 0 {
			sparse.Look(0, 'a')
		} else {
			dense.Look(0, 'a')
		}
	}
	for range hunt {
		m.Read([]byte("a"), 0)
	}
	m.Copy(make([]byte, move), make([]byte, move))
}

func TestHandlesOfOneMeterCountTogether(t *testing.T) {
	m := meter.New()
	b := []byte("abc")
	x, y := m.Text(b), m.Text(b)
	x.At(0)
	y.At(1)
	y.At(2)
	x.At(2)
	p, q, r := m.Sparse(), m.Sparse(meter.Row{State: 1, Byte: 'a', To: 2}), m.Dense([256]int{}, 1, []int{0})
	p.Look(1, 'a')
	q.Look(1, 'a')
	r.Look(0, 'a')
	r.Look(1, 'a')
	p.Look(0, 'b')
	counted(t, "handles of one", m, meter.Counts{Scan: 4, Look: 5})
	use(m, 1, 2, 3, 4)
	counted(t, "and more", m, meter.Counts{Scan: 5, Look: 7, Hunt: 3, Move: 4})
}

func TestMetersAreAlone(t *testing.T) {
	a, b, idle := meter.New(), meter.New(), meter.New()
	var none *meter.Meter
	use(a, 1, 2, 3, 4)
	use(b, 50, 60, 70, 80)
	use(none, 5, 5, 5, 5)
	use(a, 1, 1, 1, 1)
	counted(t, "a", a, meter.Counts{Scan: 2, Look: 3, Hunt: 4, Move: 5})
	counted(t, "b", b, meter.Counts{Scan: 50, Look: 60, Hunt: 70, Move: 80})
	counted(t, "idle", idle, meter.Counts{})
	counted(t, "none", none, meter.Counts{})
	counted(t, "one that is made later", meter.New(), meter.Counts{})
}

// Two meters' handles on one text, and on the same rows, used by turns.
func TestMetersSideBySide(t *testing.T) {
	a, b := meter.New(), meter.New()
	text, next := []byte("ab"), []int{0, 1}
	x, y := a.Text(text), b.Text(text)
	l := []meter.Row{{0, 'a', 1}}
	p, q := a.Sparse(l...), b.Sparse(l...)
	r, s := a.Dense([256]int{}, 1, next), b.Dense([256]int{}, 1, next)
	for i := range 9 {
		x.At(i % 3)
		q.Look(i, 'a')
		r.Look(i, 'a')
		if i%3 == 0 {
			y.At(0)
			p.Look(0, 'a')
			s.Look(0, 'a')
			b.Read(text, 1)
		}
	}
	counted(t, "a", a, meter.Counts{Scan: 6, Look: 12})
	counted(t, "b", b, meter.Counts{Scan: 3, Look: 12, Hunt: 3})
}

// DOC.md, rules 3 and 4

func TestNothingHandedInIsChanged(t *testing.T) {
	for name, m := range both() {
		for _, b := range texts() {
			room, part := withRoom(b)
			ahead := slices.Clone(room)
			m.Text(part).At(0)
			m.Read(part, 0)
			m.Copy(make([]byte, 3), part)
			m.Copy(make([]byte, len(room)), part)
			if !bytes.Equal(room, ahead) {
				t.Errorf("%s: %.20q was changed to %.20q", name, ahead, room)
			}
		}
		l := []meter.Row{{1, 'b', 2}, {0, 'a', 1}, {0, 'a', 3}, {9, 'z', 9}}
		m.Sparse(l[:3]...).Look(0, 'a')
		if !slices.Equal(l, []meter.Row{{1, 'b', 2}, {0, 'a', 1}, {0, 'a', 3}, {9, 'z', 9}}) {
			t.Errorf("%s: %v", name, l)
		}
		class, next := [256]int{'a': 1}, row(10)
		m.Dense(class, 2, next[:5]).Look(1, 'a')
		if class != [256]int{'a': 1} || !slices.Equal(next, row(10)) {
			t.Errorf("%s: %v", name, next)
		}
	}
}

func TestTablesKeepNothing(t *testing.T) {
	for name, m := range both() {
		l := []meter.Row{{0, 'a', 1}, {0, 'a', 2}, {1, 'b', 3}}
		sparse := m.Sparse(l...)
		clear(l)
		if sparse.Look(0, 'a') != 2 || sparse.Look(1, 'b') != 3 || sparse.Look(0, 0) != -1 {
			t.Errorf("%s: rows are kept", name)
		}
		class, next := [256]int{'a': 1}, row(4)
		dense := m.Dense(class, 2, next)
		class['a'] = 0
		clear(next)
		if dense.Look(0, 'x') != 1000 || dense.Look(0, 'a') != 1001 || dense.Look(1, 'a') != 1003 {
			t.Errorf("%s: next is kept", name)
		}
	}
}

// A look changes no table, whatever was looked for.
func TestLooksHaveTheSameAnswers(t *testing.T) {
	m := meter.New()
	sparse := m.Sparse(meter.Row{State: 0, Byte: 'a', To: 1})
	dense := m.Dense([256]int{'a': 1}, 2, row(3))
	for range 3 {
		if sparse.Look(0, 'b') != -1 || sparse.Look(0, 'a') != 1 || sparse.Look(1, 'a') != -1 {
			t.Error("sparse")
		}
		if dense.Look(-1, 'b') != -1 || dense.Look(0, 'a') != 1001 || dense.Look(1, 'a') != -1 {
			t.Error("dense")
		}
	}
	counted(t, "looks", m, meter.Counts{Look: 18})
}
