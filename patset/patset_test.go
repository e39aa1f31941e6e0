package patset_test

import (
	"bytes"
	"fmt"
	"slices"
	"strings"
	"testing"

	"seine/api"
	"seine/patset"
)

// told is all that a set tells but Has, as a thing that can be compared.
type told struct {
	patterns string
	empty    bool
	size     int
	least    int
}

// asks is what a set tells.
func asks(s patset.Set) told {
	return told{fmt.Sprintf("%q", s.Patterns()), s.Empty(), s.Size(), s.Least()}
}

// none is what a set without patterns tells.
func none() told { return told{patterns: "[]"} }

// model is a set as the chapter's words say it: the texts that came, each once, in the order in which they came first.
type model []string

// modelOf goes through all texts that came for each one more.
func modelOf(l []string) model {
	var m model
	for _, text := range l {
		if !slices.Contains(m, text) {
			m = append(m, text)
		}
	}
	return m
}

// tells is what a set of these texts has to tell.
func (m model) tells() told {
	var patterns []string
	size, least := 0, 0
	for _, text := range m {
		if text == "" {
			continue
		}
		patterns = append(patterns, text)
		size += len(text)
		if least == 0 || len(text) < least {
			least = len(text)
		}
	}
	return told{fmt.Sprintf("%q", patterns), slices.Contains(m, ""), size, least}
}

// linesOf is a file's lines, byte by byte, with the small letter of each capital one if folded.
func linesOf(file []byte, folded bool) []string {
	var l []string
	var text []byte
	for _, c := range file {
		if c == 10 {
			l = append(l, string(text))
			text = nil
			continue
		}
		if folded && c >= 65 && c <= 90 {
			c += 32
		}
		text = append(text, c)
	}
	if len(text) > 0 {
		l = append(l, string(text))
	}
	return l
}

// near are a text, and others that differ from it by little.
func near(text string) []string {
	l := []string{text, text + "\n", "\n" + text, text + "a", "a" + text, text + "\x00", text + text, strings.ToUpper(text), strings.ToLower(text)}
	if text != "" {
		l = append(l, text[1:], text[:len(text)-1])
	}
	return l
}

// check holds a set against the words, and asks Has for what came and for what is near to it.
func check(t *testing.T, name string, s patset.Set, m model) {
	t.Helper()
	if got, want := asks(s), m.tells(); got != want {
		t.Errorf("%s: %v, not %v", name, got, want)
	}
	for _, text := range append(slices.Clone(m), "", "zz", "\xff") {
		for _, other := range near(text) {
			if got := s.Has([]byte(other)); got != slices.Contains(m, other) {
				t.Errorf("%s: Has(%q) is %t", name, other, got)
			}
		}
	}
}

// load is the set of a file that may be.
func load(t *testing.T, file []byte, folded bool) patset.Set {
	t.Helper()
	s, err := patset.Load(file, folded)
	if err != api.OK {
		t.Fatalf("Load(%q, %t) tells %d", file, folded, err)
	}
	return s
}

// ofStrings is Of, of strings.
func ofStrings(l ...string) patset.Set {
	var b [][]byte
	for _, text := range l {
		b = append(b, []byte(text))
	}
	return patset.Of(b...)
}

// short are all files of at most 5 bytes, of a letter twice, another one, and the newline.
func short() [][]byte {
	all := [][]byte{nil}
	longest := all
	for range 5 {
		var longer [][]byte
		for _, f := range longest {
			for _, c := range []byte("a\nAb") {
				longer = append(longer, append(slices.Clone(f), c))
			}
		}
		all = append(all, longer...)
		longest = longer
	}
	return all
}

// long are ordinary files, and edges that the short ones don't have.
func long() [][]byte {
	var bytesOnce []byte
	for c := range 256 {
		bytesOnce = append(bytesOnce, byte(c))
	}
	var many []byte
	for i := range 200 {
		many = fmt.Appendf(many, "%X\n", i*7%256)
	}
	return [][]byte{
		{},
		[]byte("ab\na\nab"),
		[]byte("the Seine\nthe Marne\nthe seine\nThe Marne\n"),
		[]byte("one\r\none\n\r\n\r"),
		[]byte("\x00\n\x00\x00\n\x00"),
		[]byte("@AZ[`az{\n@az[`az{\n"),
		[]byte("\xc3\x84\n\xc3\xa4\n\xc4\n\xe4\n\xff\n\x80\n\xff"),
		[]byte("K\n\u212a\nk\n\u0130\ni\n\u017f\ns"),
		bytesOnce,
		many,
		bytes.Repeat([]byte{10}, api.FileCap),
		bytes.Repeat([]byte("seine\n"), 170),
		[]byte(strings.Repeat("x", 500) + "\n" + strings.Repeat("x", 501)),
	}
}

// files are all of them.
func files() [][]byte { return append(short(), long()...) }

// P4.1

func TestLoad(t *testing.T) {
	for _, x := range []struct {
		file   string
		folded bool
		want   told
	}{
		{"", false, none()},
		{"", true, none()},
		{"\n", false, told{"[]", true, 0, 0}},
		{"\n", true, told{"[]", true, 0, 0}},
		{"\n\n\n", false, told{"[]", true, 0, 0}},
		{"a", false, told{`["a"]`, false, 1, 1}},
		{"a\n", false, told{`["a"]`, false, 1, 1}},
		{"a\n\n", false, told{`["a"]`, true, 1, 1}},
		{"\na", false, told{`["a"]`, true, 1, 1}},
		{"a\n\nb", false, told{`["a" "b"]`, true, 2, 1}},
		{"ab\na\nab", false, told{`["ab" "a"]`, false, 3, 1}},
		{"b\na\nc\na\nb", false, told{`["b" "a" "c"]`, false, 3, 1}},
		{"Ab\naB", false, told{`["Ab" "aB"]`, false, 4, 2}},
		{"Ab\naB", true, told{`["ab"]`, false, 2, 2}},
		{"c\nAB\nab\nC\nab\n", true, told{`["c" "ab"]`, false, 3, 1}},
		{"a\r\na", false, told{`["a\r" "a"]`, false, 3, 1}},
		{" a\na ", false, told{`[" a" "a "]`, false, 4, 2}},
		{"\xc4\n\xe4", true, told{`["\xc4" "\xe4"]`, false, 2, 1}},
		{"\xc3\x84X", true, told{`["Äx"]`, false, 3, 3}},
		{"@[`{_", true, told{"[\"@[`{_\"]", false, 5, 5}},
	} {
		if got := asks(load(t, []byte(x.file), x.folded)); got != x.want {
			t.Errorf("Load(%q, %t): %v, not %v", x.file, x.folded, got, x.want)
		}
	}
}

func TestLoadIsTheWords(t *testing.T) {
	for _, file := range files() {
		for _, folded := range []bool{false, true} {
			name := fmt.Sprintf("Load(%q, %t)", file, folded)
			check(t, name, load(t, file, folded), modelOf(linesOf(file, folded)))
		}
	}
}

// fills are texts of so many bytes: one line, lines that are there many times, with the newline last and without, and newlines alone.
func fills(n int) [][]byte {
	var l [][]byte
	for _, text := range []string{"a", "A\n", "ab\n", "\n", "\xff"} {
		l = append(l, bytes.Repeat([]byte(text), n)[:n])
	}
	return l
}

func TestLoadUpToTheCap(t *testing.T) {
	for _, n := range []int{1000, 1023, 1024} {
		for _, file := range fills(n) {
			for _, folded := range []bool{false, true} {
				name := fmt.Sprintf("Load of %d bytes, %q and on, %t", n, file[:4], folded)
				check(t, name, load(t, file, folded), modelOf(linesOf(file, folded)))
			}
		}
	}
}

// With the error the set is the zero one.
func TestLoadBeyondTheCap(t *testing.T) {
	for _, n := range []int{1025, 1026, 2048, 1 << 16, api.MaxInput} {
		for _, file := range fills(n) {
			for _, folded := range []bool{false, true} {
				s, err := patset.Load(file, folded)
				if err != api.PatternBytes {
					t.Errorf("Load of %d bytes, %q and on, tells %d", n, file[:4], err)
				}
				check(t, fmt.Sprintf("%d bytes", n), s, nil)
			}
		}
	}
}

// How long a file is counts, not how much room it has, nor how long its patterns are.
func TestLoadCountsTheFile(t *testing.T) {
	room := bytes.Repeat([]byte("ab\n"), 1000)
	check(t, "a part of a long file", load(t, room[:4], false), model{"ab", "a"})
	if _, err := patset.Load(room[:1025], false); err != api.PatternBytes {
		t.Errorf("%d, though it is too long", err)
	}
}

func TestOf(t *testing.T) {
	for _, x := range []struct {
		texts []string
		want  told
	}{
		{nil, none()},
		{[]string{""}, told{"[]", true, 0, 0}},
		{[]string{"", ""}, told{"[]", true, 0, 0}},
		{[]string{"a"}, told{`["a"]`, false, 1, 1}},
		{[]string{"a", "a"}, told{`["a"]`, false, 1, 1}},
		{[]string{"", "a", ""}, told{`["a"]`, true, 1, 1}},
		{[]string{"b", "a", "b", "ab"}, told{`["b" "a" "ab"]`, false, 4, 1}},
		{[]string{"A", "a"}, told{`["A" "a"]`, false, 2, 1}},
		{[]string{"x\n", "x", "x\n"}, told{`["x\n" "x"]`, false, 3, 1}},
		{[]string{"a\nb"}, told{`["a\nb"]`, false, 3, 3}},
		{[]string{"\n"}, told{`["\n"]`, false, 1, 1}},
		{[]string{"\n\n", "\n", ""}, told{`["\n\n" "\n"]`, true, 3, 1}},
		{[]string{"\x00", "", "\x00\x00", "\xff"}, told{`["\x00" "\x00\x00" "\xff"]`, true, 4, 1}},
		{[]string{"\xff", "\xfe", "\ufffd"}, told{`["\xff" "\xfe" "�"]`, false, 5, 1}},
	} {
		s := ofStrings(x.texts...)
		if got := asks(s); got != x.want {
			t.Errorf("Of(%q): %v, not %v", x.texts, got, x.want)
		}
		check(t, fmt.Sprintf("Of(%q)", x.texts), s, modelOf(x.texts))
	}
}

func TestOfNilTexts(t *testing.T) {
	check(t, "Of()", patset.Of(), nil)
	check(t, "Of of no list", patset.Of([][]byte(nil)...), nil)
	check(t, "Of of an empty list", patset.Of([][]byte{}...), nil)
	check(t, "Of(nil)", patset.Of(nil), model{""})
	check(t, "Of with nil texts", patset.Of(nil, []byte("x"), []byte{}, nil), model{"", "x"})
}

// Files as texts: newlines, and whatever else they have, are theirs.
func TestOfIsTheWords(t *testing.T) {
	all := long()
	for i := range all {
		var l []string
		for _, b := range slices.Concat(all[i:], all[:i], all[:i/2]) {
			l = append(l, string(b))
		}
		check(t, fmt.Sprintf("Of of files from %d on", i), ofStrings(l...), modelOf(l))
	}
}

// A file's cap is none of texts.
func TestOfHasNoCap(t *testing.T) {
	one := strings.Repeat("a", 5000)
	check(t, "one long text", ofStrings(one), model{one})
	var l []string
	for i := range 3000 {
		l = append(l, fmt.Sprintf("p%d", i))
	}
	s := ofStrings(append(l, l...)...)
	if got, want := asks(s), model(l).tells(); got != want {
		t.Errorf("%d patterns of %d bytes", len(s.Patterns()), s.Size())
	}
}

func TestZeroSet(t *testing.T) {
	var s patset.Set
	check(t, "the zero set", s, nil)
	if asks(s) != none() || len(s.Patterns()) != 0 || s.Has(nil) || s.Has([]byte{}) {
		t.Error("the zero set has patterns")
	}
}

// P4.2

func TestHas(t *testing.T) {
	s := load(t, []byte("AB\nab\nC\n\n"), false)
	for _, text := range []string{"AB", "ab", "C", ""} {
		if !s.Has([]byte(text)) {
			t.Errorf("Has(%q) is false", text)
		}
	}
	for _, text := range []string{"Ab", "aB", "c", "A", "B", "ABC", "AB\n", "\n", "AB\nab"} {
		if s.Has([]byte(text)) {
			t.Errorf("Has(%q) is true", text)
		}
	}
	if !s.Has(nil) {
		t.Error("Has(nil) is false, though the empty text came")
	}
}

// What is asked for isn't folded: with fold the texts that came are those without case.
func TestHasOfFolded(t *testing.T) {
	s := load(t, []byte("AB\nab\nC"), true)
	check(t, "folded", s, model{"ab", "c"})
	for _, text := range []string{"AB", "Ab", "aB", "C", ""} {
		if s.Has([]byte(text)) {
			t.Errorf("Has(%q) is true", text)
		}
	}
	if s.Has(nil) {
		t.Error("Has(nil) is true, though no empty text came")
	}
}

func TestSizeAndLeast(t *testing.T) {
	for _, x := range []struct {
		texts       []string
		size, least int
	}{
		{nil, 0, 0},
		{[]string{""}, 0, 0},
		{[]string{"abc"}, 3, 3},
		{[]string{"abc", "abc"}, 3, 3},
		{[]string{"abc", ""}, 3, 3},
		{[]string{"", "abc"}, 3, 3},
		{[]string{"a", "abc", "abcde"}, 9, 1},
		{[]string{"abcde", "abc", "a"}, 9, 1},
		{[]string{"abcde", "ab", "abcd"}, 11, 2},
		{[]string{"ab", "cd", "ef"}, 6, 2},
		{[]string{strings.Repeat("a", 1024)}, 1024, 1024},
		{[]string{strings.Repeat("a", 2000), strings.Repeat("b", 1999)}, 3999, 1999},
	} {
		s := ofStrings(x.texts...)
		if s.Size() != x.size || s.Least() != x.least {
			t.Errorf("%.40q: %d bytes, the shortest %d; not %d, %d", x.texts, s.Size(), s.Least(), x.size, x.least)
		}
	}
}

// The order is that of the first ones that came, each time it is asked for.
func TestPatternsKeepTheirOrder(t *testing.T) {
	var l []string
	for i := range 150 {
		l = append(l, fmt.Sprintf("%x", i*37%256))
	}
	want := model(l).tells()
	for range 20 {
		s := load(t, []byte(strings.Join(l, "\n")), false)
		again := load(t, []byte(strings.Join(append(slices.Clone(l), l[149], l[0], l[77]), "\n")), true)
		if asks(s) != want || asks(s) != want || asks(again) != want {
			t.Fatalf("%q, then %q", s.Patterns(), again.Patterns())
		}
	}
}

// P4.3

func TestNoLineAndOneEmptyLine(t *testing.T) {
	for _, folded := range []bool{false, true} {
		check(t, "an empty file", load(t, []byte{}, folded), nil)
		check(t, "no file", load(t, nil, folded), nil)
		check(t, "a newline", load(t, []byte{10}, folded), model{""})
	}
}

func TestFileTwice(t *testing.T) {
	for _, file := range files() {
		if len(file) > 511 {
			continue
		}
		for _, folded := range []bool{false, true} {
			once := asks(load(t, file, folded))
			twice := asks(load(t, slices.Concat(file, []byte{10}, file), folded))
			want := once
			want.empty = once.empty || len(file) == 0 || file[len(file)-1] == 10
			if twice != want {
				t.Errorf("%q, %t: %v, twice %v, not %v", file, folded, once, twice, want)
			}
		}
	}
}

func TestFileTwiceAtTheCap(t *testing.T) {
	half := bytes.Repeat([]byte("a"), 512)
	if _, err := patset.Load(slices.Concat(half, []byte{10}, half), false); err != api.PatternBytes {
		t.Errorf("1025 bytes: %d", err)
	}
	check(t, "1024 bytes", load(t, slices.Concat(half, []byte{10}, half[1:]), false), model{string(half), string(half[1:])})
}

// DOC.md, rules 3 and 4

// withRoom is a text with bytes behind it, where there is room; they aren't the function's to change either.
func withRoom(b []byte) (room, part []byte) {
	room = append(slices.Clone(b), "Tail\nof it"...)
	return room, room[:len(b)]
}

func TestNothingHandedInIsChanged(t *testing.T) {
	for _, file := range files() {
		room, part := withRoom(file)
		ahead := slices.Clone(room)
		patset.Load(part, false)
		patset.Load(part, true)
		s := patset.Of(part, nil, part)
		s.Has(part)
		if !bytes.Equal(room, ahead) {
			t.Errorf("%q was changed to %q", ahead, room)
		}
	}
}

func TestOfChangesNoList(t *testing.T) {
	room := [][]byte{[]byte("A"), nil, []byte("A"), []byte("bc"), []byte("behind")}
	patset.Of(room[:4]...)
	if got := fmt.Sprintf("%q", room); got != `["A" "" "A" "bc" "behind"]` {
		t.Error(got)
	}
}

// spoil changes all bytes of a text, and those behind it where there is room.
func spoil(b []byte) {
	b = b[:cap(b)]
	for i := range b {
		b[i] = '#'
	}
}

func TestLoadKeepsNoFile(t *testing.T) {
	for _, file := range files() {
		for _, folded := range []bool{false, true} {
			own := slices.Clone(file)
			s := load(t, own, folded)
			spoil(own)
			check(t, fmt.Sprintf("Load(%q, %t), spoiled", file, folded), s, modelOf(linesOf(file, folded)))
		}
	}
}

func TestOfKeepsNoText(t *testing.T) {
	l := [][]byte{[]byte("ab"), []byte("c"), {}, []byte("ab"), []byte("x\ny")}
	s := patset.Of(l...)
	for i := range l {
		spoil(l[i])
		l[i] = []byte("other")
	}
	check(t, "Of, spoiled", s, model{"ab", "c", "", "x\ny"})
}

// Each pattern in turn: whoever changes it, or puts bytes behind it, changes neither the others, nor the set, nor another answer.
func TestPatternsAreNewMemory(t *testing.T) {
	for _, file := range long() {
		s := load(t, file, false)
		want := modelOf(linesOf(file, false))
		got, other := s.Patterns(), s.Patterns()
		for i := range got {
			behind := fmt.Sprintf("%q", got[i+1:])
			_ = append(got[i], "more"...)
			spoil(got[i])
			if fmt.Sprintf("%q", got[i+1:]) != behind {
				t.Fatalf("%q: pattern %d shares memory with one behind it", file, i)
			}
		}
		clear(got)
		check(t, fmt.Sprintf("%q, spoiled", file), s, want)
		if fmt.Sprintf("%q", other) != want.tells().patterns {
			t.Errorf("%q: two answers share memory", file)
		}
	}
}

// Neither a set that is made later nor a copy of one plays a part in another.
func TestSetsAreAlone(t *testing.T) {
	a := load(t, []byte("ab\n\nc"), false)
	own := a
	b := load(t, []byte("d"), true)
	c := patset.Of([]byte("ab"), []byte("e\n"))
	a = patset.Of()
	check(t, "a, made anew", a, nil)
	check(t, "a's copy", own, model{"ab", "", "c"})
	check(t, "b", b, model{"d"})
	check(t, "c", c, model{"ab", "e\n"})
	check(t, "the zero set", patset.Set{}, nil)
}
