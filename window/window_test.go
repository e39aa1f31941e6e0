package window_test

import (
	"bytes"
	"fmt"
	"slices"
	"strings"
	"testing"

	"seine/meter"
	"seine/window"
)

// model is the words: what a window holds, its room, and what was moved and added since it was new.
type model struct {
	held  string
	room  int
	moved int
	added int
}

// add is P18.2.
func (m *model) add(b string) {
	if b == "" {
		return
	}
	k, n := len(m.held), len(b)
	if k+n > m.room {
		m.room = slices.Max([]int{2 * m.room, k + n, 16})
		m.moved += k
	}
	m.moved += n
	m.added += n
	m.held += b
}

// clear is P18.3.
func (m *model) clear() { m.held = "" }

// step is an Add of some text, or a Clear.
type step struct {
	text  string
	clear bool
}

// clearing is the step that clears.
var clearing = step{clear: true}

// adding is the step that adds a text of n bytes; no two of its bytes nearby are one.
func adding(n int) step { return step{text: someText(n, n)} }

// someText is n bytes, which differ by from where they begin.
func someText(from, n int) string {
	b := make([]byte, n)
	for i := range b {
		b[i] = byte(7*from + 11*i)
	}
	return string(b)
}

// do does a step with a window and with the words.
func do(w *window.Window, m *model, s step) {
	if s.clear {
		w.Clear()
		m.clear()
		return
	}
	w.Add([]byte(s.text))
	m.add(s.text)
}

// told is what a run of steps is named by in a fault.
func told(run []step) string {
	var l []string
	for _, s := range run {
		if s.clear {
			l = append(l, "Clear")
			continue
		}
		l = append(l, fmt.Sprintf("Add of %d", len(s.text)))
	}
	if len(l) > 12 {
		l = append([]string{"..."}, l[len(l)-12:]...)
	}
	return strings.Join(l, ", ")
}

// holds holds what a window tells against the words.
func holds(t *testing.T, name string, w *window.Window, m model) {
	t.Helper()
	if got := w.Len(); got != len(m.held) {
		t.Fatalf("%s: Len is %d, not %d", name, got, len(m.held))
	}
	if got := w.Room(); got != m.room {
		t.Fatalf("%s: Room is %d, not %d", name, got, m.room)
	}
	if got := w.Bytes(); string(got) != m.held {
		t.Fatalf("%s: Bytes is %.60q, of %d bytes, not %.60q, of %d", name, got, len(got), m.held, len(m.held))
	}
}

// moves holds what a meter counted against what was moved: nothing else is counted.
func moves(t *testing.T, name string, m *meter.Meter, moved int) {
	t.Helper()
	if got, want := m.Counts(), (meter.Counts{Move: moved}); got != want {
		t.Fatalf("%s: counted %v, not %v", name, got, want)
	}
}

// check does steps one behind another, and holds each against the words, of a window with a meter and of one without.
func check(t *testing.T, run []step) {
	t.Helper()
	q := meter.New()
	var words, bare model
	w, without := window.New(q), window.New(nil)
	for i, s := range run {
		do(w, &words, s)
		do(without, &bare, s)
		// What is told of all steps but the last is held by the runs that end there, where all short ones are run.
		if i < len(run)-1 && len(run) < 6 {
			continue
		}
		name := told(run[:i+1])
		holds(t, name, w, words)
		moves(t, name, q, words.moved)
		holds(t, name+" (nil meter)", without, bare)
		if words.moved > 3*words.added {
			t.Fatalf("%s: %d moved, %d added", name, words.moved, words.added)
		}
	}
}

// runsOf are all runs of 0 to n of some steps.
func runsOf(some []step, n int) [][]step {
	all := [][]step{nil}
	longest := all
	for range n {
		var longer [][]step
		for _, run := range longest {
			for _, s := range some {
				longer = append(longer, append(slices.Clone(run), s))
			}
		}
		all = append(all, longer...)
		longest = longer
	}
	return all
}

// roomy is a text with bytes behind it, where there is room; they are no part of it.
func roomy(text string) (room, part []byte) {
	room = []byte(text + "Tail")
	return room, room[:len(text)]
}

// spoil changes all bytes of a text, and those behind it where there is room.
func spoil(b []byte) {
	b = b[:cap(b)]
	for i := range b {
		b[i] ^= 0x5a
	}
}

// everyByte is each byte once, from 0 to 255.
func everyByte() string {
	b := make([]byte, 256)
	for i := range b {
		b[i] = byte(i)
	}
	return string(b)
}

// P18.1

func TestNewHoldsNothing(t *testing.T) {
	q := meter.New()
	w := window.New(q)
	if w == nil {
		t.Fatal("no window")
	}
	for range 2 {
		holds(t, "new", w, model{})
		moves(t, "new", q, 0)
	}
	holds(t, "new, with a nil meter", window.New(nil), model{})
}

func TestLenBytesAndRoom(t *testing.T) {
	for _, x := range []struct {
		texts []string
		bytes string
		room  int
	}{
		{[]string{"a"}, "a", 16},
		{[]string{"ab", "c"}, "abc", 16},
		{[]string{"", "ab", "", "ab", ""}, "abab", 16},
		{[]string{"\x00"}, "\x00", 16},
		{[]string{"\xff", "\x00", "\xff"}, "\xff\x00\xff", 16},
		{[]string{"\n", "a\n"}, "\na\n", 16},
		{[]string{"é", "\x80\xfe"}, "é\x80\xfe", 16},
		{[]string{"0123456789abcdef"}, "0123456789abcdef", 16},
		{[]string{"0123456789abcdef", "x"}, "0123456789abcdefx", 32},
		{[]string{"0123456789abcdefx"}, "0123456789abcdefx", 17},
	} {
		w := window.New(meter.New())
		for _, text := range x.texts {
			w.Add([]byte(text))
		}
		holds(t, fmt.Sprintf("%q", x.texts), w, model{held: x.bytes, room: x.room})
	}
}

func TestEveryByteIsHeld(t *testing.T) {
	w, m := window.New(nil), model{}
	for c := range 256 {
		do(w, &m, step{text: string([]byte{byte(c)})})
		holds(t, fmt.Sprint("up to byte ", c), w, m)
	}
	if got := w.Bytes(); string(got) != everyByte() {
		t.Errorf("Bytes is %q", got)
	}
	w.Clear()
	w.Add([]byte(everyByte()))
	if got := w.Bytes(); string(got) != everyByte() {
		t.Errorf("Bytes, of one Add, is %q", got)
	}
}

func TestCountsByItsMeter(t *testing.T) {
	q, other := meter.New(), meter.New()
	w := window.New(q)
	w.Add([]byte("abc"))
	moves(t, "its meter", q, 3)
	moves(t, "another meter", other, 0)
}

func TestMeterThatCountedBefore(t *testing.T) {
	q := meter.New()
	text := q.Text([]byte("ab"))
	text.At(0)
	text.At(1)
	q.Sparse().Look(0, 'a')
	q.Read([]byte("abc"), 0)
	q.Read([]byte("abc"), 1)
	q.Read([]byte("abc"), 2)
	q.Copy(make([]byte, 4), []byte("abcd"))
	w := window.New(q)
	if got, want := q.Counts(), (meter.Counts{Scan: 2, Look: 1, Hunt: 3, Move: 4}); got != want {
		t.Errorf("New changed what was counted: %v, not %v", got, want)
	}
	w.Add(make([]byte, 10))
	w.Add(make([]byte, 7))
	w.Bytes()
	if got, want := q.Counts(), (meter.Counts{Scan: 2, Look: 1, Hunt: 3, Move: 31}); got != want {
		t.Errorf("counted %v, not %v", got, want)
	}
	text.At(0)
	q.Copy(make([]byte, 2), []byte("ab"))
	w.Clear()
	w.Add(make([]byte, 5))
	if got, want := q.Counts(), (meter.Counts{Scan: 3, Look: 1, Hunt: 3, Move: 38}); got != want {
		t.Errorf("counted %v, not %v", got, want)
	}
}

func TestTwoWindowsOfOneMeter(t *testing.T) {
	q := meter.New()
	one, two := window.New(q), window.New(q)
	var a, b model
	for i := range 60 {
		do(one, &a, step{text: someText(i, i%9)})
		do(two, &b, step{text: someText(i+1, i%23), clear: i%17 == 16})
		name := fmt.Sprint("step ", i)
		holds(t, name+", the first", one, a)
		holds(t, name+", the second", two, b)
		moves(t, name, q, a.moved+b.moved)
	}
}

func TestAskingCountsNothing(t *testing.T) {
	q := meter.New()
	w := window.New(q)
	w.Add(make([]byte, 20))
	for range 5 {
		w.Bytes()
		w.Len()
		w.Room()
		w.Clear()
		w.Bytes()
		w.Len()
		w.Room()
	}
	moves(t, "asked", q, 20)
}

// P18.2

func TestAddsByHand(t *testing.T) {
	for _, x := range []struct {
		sizes []int
		rooms []int
		moved []int
	}{
		// The chapter's example.
		{[]int{10, 7}, []int{16, 32}, []int{10, 27}},
		// 16 is the greatest.
		{[]int{1}, []int{16}, []int{1}},
		{[]int{15}, []int{16}, []int{15}},
		{[]int{16}, []int{16}, []int{16}},
		{[]int{15, 1}, []int{16, 16}, []int{15, 16}},
		// What is held and added is the greatest.
		{[]int{17}, []int{17}, []int{17}},
		{[]int{33}, []int{33}, []int{33}},
		{[]int{1, 32}, []int{16, 33}, []int{1, 34}},
		{[]int{16, 17}, []int{16, 33}, []int{16, 49}},
		{[]int{16, 100}, []int{16, 116}, []int{16, 132}},
		{[]int{17, 18}, []int{17, 35}, []int{17, 52}},
		{[]int{1000, 1001}, []int{1000, 2001}, []int{1000, 3001}},
		// Twice the room is, or is as great as the others.
		{[]int{15, 2}, []int{16, 32}, []int{15, 32}},
		{[]int{16, 1}, []int{16, 32}, []int{16, 33}},
		{[]int{16, 15}, []int{16, 32}, []int{16, 47}},
		{[]int{16, 16}, []int{16, 32}, []int{16, 48}},
		{[]int{1, 31}, []int{16, 32}, []int{1, 33}},
		{[]int{17, 1}, []int{17, 34}, []int{17, 35}},
		{[]int{17, 17}, []int{17, 34}, []int{17, 51}},
		{[]int{33, 1}, []int{33, 66}, []int{33, 67}},
		{[]int{1000, 1}, []int{1000, 2000}, []int{1000, 2001}},
		// What fits moves what is added alone.
		{[]int{1, 1, 1}, []int{16, 16, 16}, []int{1, 2, 3}},
		{[]int{8, 8, 8, 8, 8}, []int{16, 16, 32, 32, 64}, []int{8, 16, 40, 48, 88}},
		{[]int{17, 1, 16, 1}, []int{17, 34, 34, 68}, []int{17, 35, 51, 86}},
		{[]int{16, 1, 15, 1, 31, 1}, []int{16, 32, 32, 64, 64, 128}, []int{16, 33, 48, 81, 112, 177}},
		// Nothing, if what is added is empty: whether there is room or not.
		{[]int{0}, []int{0}, []int{0}},
		{[]int{0, 0, 1, 0}, []int{0, 0, 16, 16}, []int{0, 0, 1, 1}},
		{[]int{16, 0, 0}, []int{16, 16, 16}, []int{16, 16, 16}},
		{[]int{17, 0, 1}, []int{17, 17, 34}, []int{17, 17, 35}},
	} {
		q := meter.New()
		w := window.New(q)
		held := ""
		for i, n := range x.sizes {
			text := someText(i, n)
			held += text
			w.Add([]byte(text))
			name := fmt.Sprint("Adds of ", x.sizes[:i+1])
			holds(t, name, w, model{held: held, room: x.rooms[i]})
			moves(t, name, q, x.moved[i])
		}
	}
}

func TestAddOfNothing(t *testing.T) {
	for _, ahead := range []int{0, 1, 15, 16, 17, 33} {
		q := meter.New()
		w, m := window.New(q), model{}
		do(w, &m, adding(ahead))
		for _, nothing := range [][]byte{nil, {}, make([]byte, 0, 40), []byte("abc")[3:], []byte("abc")[:0]} {
			w.Add(nothing)
			holds(t, fmt.Sprint("nothing behind ", ahead), w, m)
			moves(t, fmt.Sprint("nothing behind ", ahead), q, ahead)
		}
		do(w, &m, step{text: "ab"})
		holds(t, fmt.Sprint("ab behind ", ahead), w, m)
		moves(t, fmt.Sprint("ab behind ", ahead), q, m.moved)
	}
}

func TestAddsOfEachSize(t *testing.T) {
	for first := range 70 {
		for second := range 140 {
			q := meter.New()
			w, m := window.New(q), model{}
			do(w, &m, adding(first))
			do(w, &m, adding(second))
			name := fmt.Sprintf("Adds of %d and %d", first, second)
			holds(t, name, w, m)
			moves(t, name, q, m.moved)
		}
	}
}

func TestAddsThatFillTheRoom(t *testing.T) {
	q := meter.New()
	w, m := window.New(q), model{}
	do(w, &m, adding(5))
	for range 9 {
		room, moved := w.Room(), q.Counts().Move
		n := room - w.Len()
		do(w, &m, adding(n))
		name := fmt.Sprint("room of ", room)
		if w.Room() != room || w.Len() != room || q.Counts().Move != moved+n {
			t.Fatalf("%s: filled, it is %d; %d held, %d moved", name, w.Room(), w.Len(), q.Counts().Move-moved)
		}
		holds(t, name, w, m)
		do(w, &m, step{text: "x"})
		if w.Room() != 2*room || w.Len() != room+1 || q.Counts().Move != moved+n+room+1 {
			t.Fatalf("%s: one byte more, it is %d; %d held, %d moved", name, w.Room(), w.Len(), q.Counts().Move-moved)
		}
		holds(t, name, w, m)
	}
}

func TestAddEndsAtItsLength(t *testing.T) {
	for _, n := range []int{0, 1, 5, 14, 16, 20} {
		q := meter.New()
		w, m := window.New(q), model{}
		for i := range 3 {
			text := someText(i, n)
			room, part := roomy(text)
			w.Add(part)
			m.add(text)
			holds(t, fmt.Sprint("room behind ", n), w, m)
			moves(t, fmt.Sprint("room behind ", n), q, m.moved)
			if string(room) != text+"Tail" {
				t.Fatalf("what is handed in became %q", room)
			}
		}
	}
}

// P18.3

func TestClear(t *testing.T) {
	for _, n := range []int{0, 1, 15, 16, 17, 33, 1000} {
		q := meter.New()
		w, m := window.New(q), model{}
		do(w, &m, adding(n))
		room := w.Room()
		for range 3 {
			do(w, &m, clearing)
			if w.Room() != room {
				t.Fatalf("cleared, a room of %d is %d", room, w.Room())
			}
			holds(t, fmt.Sprintf("Add of %d, cleared", n), w, m)
			moves(t, fmt.Sprintf("Add of %d, cleared", n), q, n)
		}
		do(w, &m, step{text: "abc"})
		holds(t, fmt.Sprintf("Add of %d, cleared, abc", n), w, m)
		moves(t, fmt.Sprintf("Add of %d, cleared, abc", n), q, n+3)
	}
}

func TestRoomStays(t *testing.T) {
	for _, x := range []struct {
		run   []step
		bytes int
		room  int
		moved int
	}{
		{[]step{clearing}, 0, 0, 0},
		{[]step{clearing, adding(3)}, 3, 16, 3},
		{[]step{clearing, adding(17)}, 17, 17, 17},
		{[]step{adding(10), clearing, adding(16)}, 16, 16, 26},
		// What was held ahead of Clear is no more moved.
		{[]step{adding(10), clearing, adding(17)}, 17, 32, 27},
		{[]step{adding(16), clearing, adding(33)}, 33, 33, 49},
		{[]step{adding(40), clearing, adding(40)}, 40, 40, 80},
		{[]step{adding(40), clearing, adding(41)}, 41, 80, 81},
		{[]step{adding(40), clearing, adding(1), adding(40)}, 41, 80, 82},
		{[]step{adding(40), clearing, adding(1), adding(39)}, 40, 40, 80},
		{[]step{adding(40), clearing, clearing, adding(100)}, 100, 100, 140},
		{[]step{adding(17), clearing, adding(1)}, 1, 17, 18},
		{[]step{adding(9), clearing, adding(9), clearing, adding(9)}, 9, 16, 27},
		{[]step{adding(9), clearing, adding(0), clearing}, 0, 16, 9},
	} {
		q := meter.New()
		w := window.New(q)
		for _, s := range x.run {
			do(w, &model{}, s)
		}
		if w.Len() != x.bytes || len(w.Bytes()) != x.bytes || w.Room() != x.room {
			t.Errorf("%s: %d held, Room %d; not %d, %d", told(x.run), w.Len(), w.Room(), x.bytes, x.room)
		}
		moves(t, told(x.run), q, x.moved)
	}
}

func TestClearedBytesDontComeBack(t *testing.T) {
	w := window.New(nil)
	w.Add([]byte("abcdefghijklmnop"))
	w.Clear()
	w.Add([]byte("xy"))
	w.Add(nil)
	if got := w.Bytes(); string(got) != "xy" {
		t.Errorf("Bytes is %q", got)
	}
	w.Add(make([]byte, 15))
	if got, want := w.Bytes(), "xy"+strings.Repeat("\x00", 15); string(got) != want {
		t.Errorf("Bytes is %q, not %q", got, want)
	}
}

func TestNilWindow(t *testing.T) {
	var w *window.Window
	for _, b := range [][]byte{nil, {}, []byte("a"), make([]byte, 100)} {
		for range 2 {
			w.Add(b)
			w.Clear()
			w.Add(b)
			holds(t, "nil", w, model{})
		}
	}
	text := []byte("abc")
	w.Add(text)
	if string(text) != "abc" {
		t.Errorf("what is handed in became %q", text)
	}
}

// P18.4

func TestShortRuns(t *testing.T) {
	var some []step
	for _, n := range []int{0, 1, 7, 15, 16, 17, 33} {
		some = append(some, adding(n))
	}
	for _, run := range runsOf(append(some, clearing), 5) {
		check(t, run)
	}
}

func TestShortTexts(t *testing.T) {
	some := []step{clearing, {text: "\x00"}, {text: "\xff"}, {text: "\x00\xff"}, {text: "\xff\x00\xff\xff\xff\x00\x00"}}
	for _, run := range runsOf(some, 5) {
		check(t, run)
	}
}

// longRun are many steps: Adds of 0 to some bytes, and now and then a Clear, as a fixed rule that doesn't soon come round says.
func longRun(seed uint32, steps, most, often int) []step {
	var run []step
	for i := range steps {
		seed = seed*1664525 + 1013904223
		n := int(seed >> 8)
		if often > 0 && n%often == 0 {
			run = append(run, clearing)
			continue
		}
		run = append(run, step{text: someText(i, n/7%(most+1))})
	}
	return run
}

func TestLongRuns(t *testing.T) {
	for _, x := range []struct{ steps, most, often int }{
		{2000, 1, 0},
		{2000, 3, 0},
		{2000, 3, 9},
		{1000, 20, 0},
		{2000, 20, 5},
		{2000, 20, 2},
		{2000, 20, 50},
		{500, 300, 0},
		{1000, 300, 10},
		{1000, 4000, 4},
	} {
		for seed := range uint32(3) {
			check(t, longRun(seed, x.steps, x.most, x.often))
		}
	}
}

func TestRisingRuns(t *testing.T) {
	var rising, falling, cleared []step
	for n := range 100 {
		rising = append(rising, adding(n))
		falling = append(falling, adding(99-n))
		cleared = append(cleared, adding(n), clearing, adding(2*n), step{text: "x"}, clearing, clearing)
	}
	for _, run := range [][]step{rising, falling, cleared} {
		check(t, run)
	}
}

// TestMovedAtMost holds what a meter counts against what was added, where that is nearly three times as many: each room is filled, and one byte more makes a greater one.
func TestMovedAtMost(t *testing.T) {
	q := meter.New()
	w := window.New(q)
	added := 0
	add := func(n int) {
		w.Add(make([]byte, n))
		added += n
		if moved := q.Counts().Move; moved > 3*added {
			t.Fatalf("%d moved, %d added", moved, added)
		}
	}
	for w.Room() < 1<<20 {
		add(1)
		if w.Room() > w.Len() {
			add(w.Room() - w.Len())
		}
	}
	add(1)
	if moved := q.Counts().Move; moved != added+(1<<21)-16 {
		t.Errorf("%d moved, %d added", moved, added)
	}
}

func TestClearsMoveNothing(t *testing.T) {
	q := meter.New()
	w := window.New(q)
	w.Add(make([]byte, 64))
	for i := range 1000 {
		w.Clear()
		for range 8 {
			w.Add(make([]byte, 8))
		}
		if w.Room() != 64 {
			t.Fatalf("Room is %d", w.Room())
		}
		moves(t, "filled again and again", q, 64*(i+2))
	}
}

func TestByteByByte(t *testing.T) {
	q := meter.New()
	w := window.New(q)
	var held []byte
	for i := range 1 << 16 {
		c := byte(i ^ i>>8)
		held = append(held, c)
		w.Add([]byte{c})
		// Where the room is full, and where it was made wider: in between it would take too long.
		full, widened := w.Len() == w.Room(), w.Len() == w.Room()/2+1
		if (full || widened) && !bytes.Equal(w.Bytes(), held) {
			t.Fatalf("of %d bytes others are held", i+1)
		}
	}
	if w.Len() != 1<<16 || w.Room() != 1<<16 {
		t.Errorf("Len is %d, Room %d", w.Len(), w.Room())
	}
	// Beside each byte once, 16, 32 .. 2^15 of them once more.
	moves(t, "byte by byte", q, 1<<16+1<<16-16)
}

func TestLongTexts(t *testing.T) {
	text := strings.Repeat("seine\x00\xff\n", 1<<16)
	q := meter.New()
	w, m := window.New(q), model{}
	for _, s := range []step{{text: text}, {text: "x"}, {text: text}, clearing, {text: text[1:]}, {text: text + text}} {
		do(w, &m, s)
		holds(t, "long", w, m)
		moves(t, "long", q, m.moved)
	}
}

// DOC.md, rules 3 and 4

func TestNothingHandedInIsChanged(t *testing.T) {
	w := window.New(meter.New())
	for i, n := range []int{0, 1, 15, 16, 17, 33, 5, 200} {
		text := someText(i, n)
		b := []byte(text)
		w.Add(b)
		w.Add([]byte("more"))
		w.Clear()
		w.Add([]byte("other"))
		if string(b) != text {
			t.Fatalf("an Add of %d bytes: they became %q", n, b)
		}
	}
}

func TestNothingHandedInIsKept(t *testing.T) {
	for _, n := range []int{1, 15, 16, 17, 33, 500} {
		w, m := window.New(nil), model{}
		for i := range 4 {
			text := someText(i, n)
			_, b := roomy(text)
			w.Add(b)
			m.add(text)
			spoil(b)
			holds(t, fmt.Sprintf("Adds of %d bytes, changed afterwards", n), w, m)
		}
	}
}

func TestOneTextHandedInAgain(t *testing.T) {
	w, m := window.New(nil), model{}
	b := make([]byte, 5)
	for i := range 20 {
		for j := range b {
			b[j] = byte(i*5 + j)
		}
		w.Add(b)
		m.add(string(b))
		holds(t, "one text, changed from Add to Add", w, m)
	}
}

func TestBytesAreNewMemory(t *testing.T) {
	for _, n := range []int{1, 15, 16, 17, 33, 500} {
		w, m := window.New(nil), model{}
		do(w, &m, adding(n))
		one, two := w.Bytes(), w.Bytes()
		spoil(one)
		if string(two) != m.held {
			t.Fatalf("of %d bytes two answers share some", n)
		}
		holds(t, fmt.Sprintf("%d bytes, the answer changed", n), w, m)
		do(w, &m, step{text: "abc"})
		holds(t, fmt.Sprintf("%d bytes, the answer changed, and an Add", n), w, m)
	}
}

// TestBytesStay holds that an answer stays as it was, whatever is done with the window.
func TestBytesStay(t *testing.T) {
	for _, n := range []int{0, 1, 10, 15, 16, 17, 33} {
		w, m := window.New(nil), model{}
		do(w, &m, adding(n))
		got, held := w.Bytes(), m.held
		for _, s := range []step{{text: "ab"}, clearing, {text: someText(1, n+3)}, {text: someText(2, 100)}, clearing, {text: "c"}} {
			do(w, &m, s)
			if string(got) != held {
				t.Fatalf("%d bytes became %q", n, got)
			}
		}
	}
}

// TestBytesMadeLonger holds that what is put behind an answer, where it has room, comes not to the window.
func TestBytesMadeLonger(t *testing.T) {
	for _, n := range []int{0, 1, 10, 15, 16, 17, 33} {
		w, m := window.New(nil), model{}
		do(w, &m, adding(n))
		do(w, &m, step{text: "abc"})
		for range 4 {
			longer := append(w.Bytes(), "xyz"...)
			if want := m.held + "xyz"; string(longer) != want {
				t.Fatalf("made longer, it is %q, not %q", longer, want)
			}
			holds(t, "an answer that is made longer", w, m)
			do(w, &m, step{text: "d"})
			if longer[len(longer)-3] != 'x' {
				t.Fatalf("an Add changed what was put behind an answer: %q", longer)
			}
			holds(t, "an Add behind an answer that is made longer", w, m)
		}
	}
}

func TestBytesOfNothing(t *testing.T) {
	w := window.New(nil)
	for range 2 {
		got := w.Bytes()
		if len(got) != 0 {
			t.Fatalf("Bytes is %q", got)
		}
		_ = append(got, "abc"...)
		spoil(got)
		holds(t, "nothing", w, model{room: w.Room()})
		w.Add([]byte("abcdef"))
		w.Clear()
		_ = append(w.Bytes(), "xyz"...)
		spoil(w.Bytes())
		w.Add([]byte("gh"))
		if got := w.Bytes(); string(got) != "gh" {
			t.Fatalf("Bytes is %q", got)
		}
		w.Clear()
	}
}

func TestAWindowsBytesAddedToIt(t *testing.T) {
	q := meter.New()
	w, m := window.New(q), model{}
	do(w, &m, step{text: "abc\x00"})
	for range 8 {
		text := string(w.Bytes())
		w.Add(w.Bytes())
		m.add(text)
		holds(t, "its own bytes", w, m)
		moves(t, "its own bytes", q, m.moved)
	}
	if got := w.Bytes(); !bytes.Equal(got, bytes.Repeat([]byte("abc\x00"), 256)) {
		t.Errorf("Bytes is %q", got)
	}
}

func TestWindowsAreAlone(t *testing.T) {
	p, q := meter.New(), meter.New()
	one, two := window.New(p), window.New(q)
	var a, b model
	for i := range 80 {
		do(one, &a, step{text: someText(i, i%13), clear: i%11 == 10})
		do(two, &b, step{text: someText(3*i+1, i%31), clear: i%29 == 28})
		name := fmt.Sprint("step ", i)
		holds(t, name+", the first", one, a)
		holds(t, name+", the second", two, b)
		moves(t, name+", the first", p, a.moved)
		moves(t, name+", the second", q, b.moved)
	}
	one.Clear()
	holds(t, "the other one cleared", two, b)
	holds(t, "a new one", window.New(p), model{})
}

func TestSameCallsSameAnswers(t *testing.T) {
	run := longRun(7, 300, 40, 12)
	for range 3 {
		check(t, run)
	}
	// Neither room behind what is handed in nor where it lies plays a part.
	w, roomier := window.New(nil), window.New(nil)
	for _, s := range run {
		if s.clear {
			w.Clear()
			roomier.Clear()
			continue
		}
		_, part := roomy(s.text)
		w.Add([]byte(s.text))
		roomier.Add(part)
		if w.Room() != roomier.Room() || !bytes.Equal(w.Bytes(), roomier.Bytes()) {
			t.Fatal("one run has two answers")
		}
	}
}

func TestAskingChangesNothing(t *testing.T) {
	w, m := window.New(nil), model{}
	for _, n := range []int{0, 1, 15, 1, 200} {
		do(w, &m, adding(n))
		for range 3 {
			holds(t, "asked again", w, m)
		}
	}
}
