package lines_test

import (
	"bytes"
	"fmt"
	"slices"
	"testing"

	"seine/lines"
)

// line is a line whose bytes are a string, so that two can be held against each other.
type line struct {
	off  int
	text string
	ends bool
}

// String quotes the bytes: a test's report is a text, whatever the line has.
func (l line) String() string { return fmt.Sprintf("(%d %q %t)", l.off, l.text, l.ends) }

// plain is lines as things that can be compared.
func plain(l []lines.Line) []line {
	var p []line
	for _, x := range l {
		p = append(p, line{x.Off, string(x.Text), x.Ends})
	}
	return p
}

// told is what an iterator tells till it has told stop lines, or all if stop is 0.
func told(seq func(func(lines.Line) bool), stop int) []lines.Line {
	var l []lines.Line
	seq(func(x lines.Line) bool {
		l = append(l, x)
		return len(l) != stop
	})
	return l
}

// linesOf is the lines of a text as the chapter's words say them, byte by byte.
func linesOf(t []byte) []line {
	var l []line
	off, text := 0, ""
	for i, c := range t {
		if c != 10 {
			text += string(t[i : i+1])
			continue
		}
		l = append(l, line{off, text, true})
		off, text = i+1, ""
	}
	if text != "" {
		l = append(l, line{off, text, false})
	}
	return l
}

// short are all texts of at most 7 bytes, of two bytes and the newline.
func short() [][]byte {
	all := [][]byte{nil}
	longest := all
	for range 7 {
		var longer [][]byte
		for _, t := range longest {
			for _, c := range []byte("a\nb") {
				longer = append(longer, append(slices.Clone(t), c))
			}
		}
		all = append(all, longer...)
		longest = longer
	}
	return all
}

// texts are the short ones, ordinary ones, and edges.
func texts() [][]byte {
	var bytesOnce []byte
	for c := range 256 {
		bytesOnce = append(bytesOnce, byte(c))
	}
	return append(short(),
		[]byte{},
		[]byte("one line"),
		[]byte("the first\nthe second\nthe third\n"),
		[]byte("the first\nthe second\nthe third"),
		[]byte("\r\n\r\na\r\n\r"),
		[]byte("\x00\n\x0b\x09\n\v\f\n\x8a\n\xff"),
		[]byte("\u2028a\u2029\u0085\nb"),
		bytesOnce,
		bytes.Repeat([]byte{10}, 1000),
		bytes.Repeat([]byte("seine "), 2000),
		bytes.Repeat([]byte("seine\n"), 2000),
	)
}

// P2.1

func TestSplit(t *testing.T) {
	for _, x := range []struct {
		text string
		want []line
	}{
		{"", nil},
		{"\n", []line{{0, "", true}}},
		{"a", []line{{0, "a", false}}},
		{"a\n", []line{{0, "a", true}}},
		{"\na", []line{{0, "", true}, {1, "a", false}}},
		{"a\nb", []line{{0, "a", true}, {2, "b", false}}},
		{"\n\n", []line{{0, "", true}, {1, "", true}}},
		{"a\n\nb", []line{{0, "a", true}, {2, "", true}, {3, "b", false}}},
		{"a\n\nb\n", []line{{0, "a", true}, {2, "", true}, {3, "b", true}}},
		{"ab\n\n\ncd\n\n", []line{{0, "ab", true}, {3, "", true}, {4, "", true}, {5, "cd", true}, {8, "", true}}},
		{"a\r\nb\r", []line{{0, "a\r", true}, {3, "b\r", false}}},
		{"\x00\n\xff\x0b\x09\x8a", []line{{0, "\x00", true}, {2, "\xff\x0b\x09\x8a", false}}},
	} {
		if got := plain(lines.Split([]byte(x.text))); !slices.Equal(got, x.want) {
			t.Errorf("Split(%q) is %v, not %v", x.text, got, x.want)
		}
	}
	if got := lines.Split(nil); len(got) != 0 {
		t.Errorf("Split(nil) is %v", got)
	}
}

func TestSplitIsTheWords(t *testing.T) {
	for _, x := range texts() {
		if got, want := plain(lines.Split(x)), linesOf(x); !slices.Equal(got, want) {
			t.Errorf("Split(%q) is %v, not %v", x, got, want)
		}
	}
}

func TestAllIsTheWords(t *testing.T) {
	for _, x := range texts() {
		var got []lines.Line
		for l := range lines.All(x) {
			got = append(got, l)
		}
		if want := linesOf(x); !slices.Equal(plain(got), want) {
			t.Errorf("All(%q) tells %v, not %v", x, plain(got), want)
		}
	}
}

// At the first line, at each later one and at the last one: nothing is told behind it.
func TestAllIsStoppedAnywhere(t *testing.T) {
	for _, x := range texts() {
		want := linesOf(x)
		for stop := 1; stop <= len(want) && stop <= 20; stop++ {
			if got := plain(told(lines.All(x), stop)); !slices.Equal(got, want[:stop]) {
				t.Errorf("All(%q), stopped at line %d, tells %v", x, stop, got)
			}
		}
	}
}

func TestAllIsStoppedByBreak(t *testing.T) {
	for _, text := range []string{"a\nb\nc", "a\nb\nc\n", "\n\n\n"} {
		for stop := 1; stop <= 3; stop++ {
			n := 0
			for range lines.All([]byte(text)) {
				n++
				if n == stop {
					break
				}
			}
			if n != stop {
				t.Errorf("%q told %d lines, stopped at %d", text, n, stop)
			}
		}
	}
}

func TestAllOfNothing(t *testing.T) {
	for _, x := range [][]byte{nil, {}} {
		for l := range lines.All(x) {
			t.Errorf("a line: %v", l)
		}
	}
}

func TestAllBeginsAnew(t *testing.T) {
	for _, x := range texts() {
		seq := lines.All(x)
		want := linesOf(x)
		told(seq, 1)
		told(seq, 2)
		first, second := plain(told(seq, 0)), plain(told(seq, 0))
		if !slices.Equal(first, want) || !slices.Equal(second, want) {
			t.Errorf("All(%q) tells %v, then %v", x, first, second)
		}
	}
}

func TestAllWithinItself(t *testing.T) {
	seq := lines.All([]byte("a\n\nb"))
	var got string
	for l := range seq {
		for m := range seq {
			got += string(l.Text) + string(m.Text) + "."
		}
	}
	if want := "aa.a.ab.a..b.ba.b.bb."; got != want {
		t.Errorf("%q, not %q", got, want)
	}
}

func TestAllIntoNothing(t *testing.T) {
	for _, text := range []string{"", "\n", "a", "a\nb\n"} {
		lines.All([]byte(text))(nil)
	}
}

func TestCount(t *testing.T) {
	for _, x := range []struct {
		text string
		want int
	}{
		{"", 0}, {"\n", 1}, {"a", 1}, {"a\n", 1}, {"\na", 2}, {"a\nb", 2}, {"a\nb\n", 2},
		{"\n\n", 2}, {"\n\n\n", 3}, {"\n\na", 3}, {"a\n\nb", 3}, {"a\n\nb\n", 3}, {"\r", 1}, {"\r\n\r", 2},
	} {
		if got := lines.Count([]byte(x.text)); got != x.want {
			t.Errorf("Count(%q) is %d, not %d", x.text, got, x.want)
		}
	}
	if got := lines.Count(nil); got != 0 {
		t.Errorf("Count(nil) is %d", got)
	}
	for _, x := range texts() {
		if got, want := lines.Count(x), len(linesOf(x)); got != want {
			t.Errorf("Count(%q) is %d, not %d", x, got, want)
		}
	}
}

// P2.2

func TestBare(t *testing.T) {
	for _, x := range []struct {
		text string
		want int
	}{
		{"", 0}, {"\n", 0}, {"\n\n\n", 0}, {"a", 1}, {"a\n", 1}, {"\na", 1}, {"a\n\nb", 2},
		{"ab\ncd\n", 4}, {"\r\n\v\x00", 3}, {"\x0a\x0b\x09\x8a\xff", 4},
	} {
		if got := lines.Bare([]byte(x.text)); got != x.want {
			t.Errorf("Bare(%q) is %d, not %d", x.text, got, x.want)
		}
	}
	if got := lines.Bare(nil); got != 0 {
		t.Errorf("Bare(nil) is %d", got)
	}
}

func TestBareIsTheLinesBytes(t *testing.T) {
	for _, x := range texts() {
		want := 0
		for _, l := range linesOf(x) {
			want += len(l.text)
		}
		if got := lines.Bare(x); got != want {
			t.Errorf("Bare(%q) is %d, not %d", x, got, want)
		}
	}
}

func TestJoin(t *testing.T) {
	for _, x := range []struct {
		texts []string
		want  string
	}{
		{nil, ""},
		{[]string{""}, "\n"},
		{[]string{"", ""}, "\n\n"},
		{[]string{"a"}, "a\n"},
		{[]string{"a", "b"}, "a\nb\n"},
		{[]string{"b", "a", "b"}, "b\na\nb\n"},
		{[]string{"", "x"}, "\nx\n"},
		{[]string{"x", ""}, "x\n\n"},
		{[]string{"a\n"}, "a\n\n"},
		{[]string{"\n"}, "\n\n"},
		{[]string{"a\nb", "\n", "c"}, "a\nb\n\n\nc\n"},
		{[]string{"\x00\xff\r", "\x80"}, "\x00\xff\r\n\x80\n"},
	} {
		var l [][]byte
		for _, s := range x.texts {
			l = append(l, []byte(s))
		}
		if got := string(lines.Join(l...)); got != x.want {
			t.Errorf("Join(%q) is %q, not %q", x.texts, got, x.want)
		}
	}
	if got := lines.Join(); len(got) != 0 {
		t.Errorf("Join() is %q", got)
	}
	if got := lines.Join([][]byte(nil)...); len(got) != 0 {
		t.Errorf("Join of no list is %q", got)
	}
	if got := string(lines.Join(nil)); got != "\n" {
		t.Errorf("Join of one nil text is %q", got)
	}
	if got := string(lines.Join(nil, []byte("x"), []byte{}, nil)); got != "\nx\n\n\n" {
		t.Errorf("Join with nil texts is %q", got)
	}
}

// P2.3

func TestLinesMakeTheText(t *testing.T) {
	for _, x := range texts() {
		var got []byte
		for _, l := range lines.Split(x) {
			if l.Off != len(got) {
				t.Errorf("%q: a line at %d, not %d", x, l.Off, len(got))
			}
			if bytes.IndexByte(l.Text, 10) >= 0 {
				t.Errorf("%q: a line with a newline, %q", x, l.Text)
			}
			got = append(got, l.Text...)
			if l.Ends {
				got = append(got, 10)
			}
		}
		if !bytes.Equal(got, x) {
			t.Errorf("the lines of %q make %q", x, got)
		}
	}
}

func TestJoinedTextsAreTheLines(t *testing.T) {
	for _, l := range [][][]byte{
		{},
		{{}},
		{{}, {}, {}},
		{[]byte("a")},
		{[]byte("a"), nil, []byte("bc"), {}},
		{nil, []byte("a\r"), []byte("\x00\xff")},
		slices.Repeat([][]byte{[]byte("ab"), {}}, 500),
	} {
		got := lines.Split(lines.Join(l...))
		if len(got) != len(l) {
			t.Fatalf("%q: %d lines", l, len(got))
		}
		for i, x := range got {
			if !bytes.Equal(x.Text, l[i]) || !x.Ends {
				t.Errorf("%q: line %d is %q, %t", l, i, x.Text, x.Ends)
			}
		}
	}
}

// DOC.md, rule 3

func TestNothingHandedInIsChanged(t *testing.T) {
	for _, x := range texts() {
		// Bytes behind the text, where there is room, aren't the function's either.
		room := append(slices.Clone(x), "Tail\nof it"...)
		ahead := slices.Clone(room)
		part := room[:len(x)]
		lines.Split(part)
		told(lines.All(part), 0)
		lines.Count(part)
		lines.Bare(part)
		lines.Join(part, part)
		if !bytes.Equal(room, ahead) {
			t.Errorf("%q was changed to %q", ahead, room)
		}
	}
}

func TestJoinChangesNoList(t *testing.T) {
	a, b := []byte("a"), []byte("bc")
	room := [][]byte{a, b, []byte("behind")}
	lines.Join(room[:2]...)
	if string(room[0]) != "a" || string(room[1]) != "bc" || string(room[2]) != "behind" {
		t.Errorf("%q", room)
	}
}

// spoil changes all of a line's bytes, and those behind it where there is room.
func spoil(l lines.Line) {
	b := l.Text[:cap(l.Text)]
	for i := range b {
		b[i] = '#'
	}
}

func TestSplitIsNewMemory(t *testing.T) {
	for _, x := range texts() {
		want := linesOf(x)
		text := slices.Clone(x)
		got, other := lines.Split(text), lines.Split(text)
		// Each line in turn: no line shares any with the ones behind it, nor with the text.
		for i, l := range got {
			spoil(l)
			if i < 20 && !slices.Equal(plain(got[i+1:]), want[i+1:]) {
				t.Fatalf("%q: line %d shares memory with one behind it", x, i)
			}
		}
		if !bytes.Equal(text, x) || !slices.Equal(plain(other), want) {
			t.Errorf("Split(%q) shares memory", x)
		}
		for i := range text {
			text[i] = 10
		}
		if !slices.Equal(plain(other), want) {
			t.Errorf("Split(%q) keeps the text", x)
		}
	}
}

func TestSplitSharesNothingBackwards(t *testing.T) {
	for _, x := range texts() {
		want := linesOf(x)
		got := lines.Split(x)
		for i := min(len(got), 20) - 1; i >= 0; i-- {
			spoil(got[i])
			if !slices.Equal(plain(got[:i]), want[:i]) {
				t.Fatalf("%q: line %d shares memory with one ahead of it", x, i)
			}
		}
	}
}

func TestAllIsNewMemory(t *testing.T) {
	for _, x := range texts() {
		want := linesOf(x)
		text := slices.Clone(x)
		seq := lines.All(text)
		// A line that is changed while the iterator goes on changes neither the lines behind it nor the text.
		var got []line
		for l := range seq {
			got = append(got, plain([]lines.Line{l})...)
			spoil(l)
		}
		if !slices.Equal(got, want) || !bytes.Equal(text, x) {
			t.Errorf("All(%q) shares memory", x)
		}
		if again := plain(told(seq, 0)); !slices.Equal(again, want) {
			t.Errorf("All(%q) tells %v the second time", x, again)
		}
	}
}

func TestAllDoesNotKeepTheText(t *testing.T) {
	text := []byte("a\nb\nc")
	want := linesOf(text)
	seq := lines.All(text)
	copy(text, "\n\n\n\n\n")
	if got := plain(told(seq, 0)); !slices.Equal(got, want) {
		t.Errorf("changed ahead of it: %v", got)
	}
	text = []byte("a\nb\nc")
	var got []lines.Line
	for l := range lines.All(text) {
		got = append(got, l)
		copy(text, "xxxxx")
	}
	if !slices.Equal(plain(got), want) {
		t.Errorf("changed within it: %v", plain(got))
	}
}

func TestJoinIsNewMemory(t *testing.T) {
	// One text alone, with room behind it, is the one that might be handed back.
	room := append(make([]byte, 0, 16), "ab"...)
	got, other := lines.Join(room), lines.Join(room)
	room[0] = '!'
	other[0] = '?'
	if string(got) != "ab\n" {
		t.Errorf("Join shares memory: %q", got)
	}
	got[1] = '#'
	if string(room) != "!b" || string(other) != "?b\n" || room[:3][2] != 0 {
		t.Errorf("Join shares memory: %q, %q", room[:3], other)
	}
}
