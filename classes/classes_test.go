package classes_test

import (
	"bytes"
	"fmt"
	"math"
	"slices"
	"strings"
	"testing"

	"seine/classes"
)

// asBytes is strings as texts, each in memory of its own.
func asBytes(l []string) [][]byte {
	var b [][]byte
	for _, text := range l {
		b = append(b, []byte(text))
	}
	return b
}

// of is Of, of strings.
func of(texts ...string) classes.Classes { return classes.Of(asBytes(texts)...) }

// everyByte is each byte once, rising.
func everyByte() string {
	var l []byte
	for b := range 256 {
		l = append(l, byte(b))
	}
	return string(l)
}

// without is each byte but one, rising.
func without(b byte) string {
	return everyByte()[:b] + everyByte()[int(b)+1:]
}

// backwards is a text from its last byte to its first.
func backwards(text string) string {
	l := []byte(text)
	slices.Reverse(l)
	return string(l)
}

// singles are the texts of one byte, from the last byte to the first.
func singles() []string {
	var l []string
	for b := range 256 {
		l = append(l, string([]byte{byte(255 - b)}))
	}
	return l
}

// stands tells whether a byte stands in a text, by the words alone.
func stands(texts []string, b byte) bool {
	for _, text := range texts {
		if strings.IndexByte(text, b) >= 0 {
			return true
		}
	}
	return false
}

// tableOf is the classes of all bytes, and how many classes there are, by the words alone.
func tableOf(texts []string) ([256]int, int) {
	var table [256]int
	next := 1
	for b := range 256 {
		if stands(texts, byte(b)) {
			table[b] = next
			next++
		}
	}
	return table, next
}

// others are numbers that are no classes, where there are n of them.
func others(n int) []int {
	l := []int{-1, -2, -255, -256, -257, -n, n, n + 1, n + 2, 2 * n, n + 255, n + 256, 256 * n, 258, 512, 1 << 31, 1<<31 + 1, 1 << 32, 1<<32 + 1, math.MaxInt - 1, math.MaxInt, math.MinInt, math.MinInt + 1}
	return slices.DeleteFunc(l, func(k int) bool { return k >= 0 && k < n })
}

// lists are ordinary lists of texts, and edges.
func lists() [][]string {
	return [][]string{
		nil,
		{""},
		{"", "", ""},
		{"ab", "b"},
		{"b", "ab"},
		{"", "ab", "", "b", ""},
		{"ab", "ab", "ab"},
		{"aaa", "aba", "baab"},
		{"banana", "Seine", "SEINE", "seine"},
		{"the Seine", "the Marne", "\n", "the Seine\n"},
		{"aA", "zZ", "@[`{"},
		{"\x00"},
		{"\xff"},
		{"\xff\x00", "\x00\xff"},
		{"\x3f\x40", "\x7f\x80", "\xbf\xc0"},
		{"\xc3\x84", "\xc3\xa4", "\u212a", "\u0130", "\x80", "\xfe"},
		{everyByte()},
		{backwards(everyByte())},
		{everyByte(), "ab", ""},
		{"ab", "", everyByte()},
		{everyByte()[:128], everyByte()[128:]},
		{everyByte()[:128], everyByte()[129:]},
		{everyByte()[1:200], everyByte()[100:]},
		{without(0)},
		{without('a'), without('a')},
		{without(255)},
		{without('a'), "a"},
		{without('a'), without('b')},
		singles(),
		singles()[1:],
		singles()[:255],
		{strings.Repeat("Seine\n", 300)},
	}
}

// check holds classes against the words: Len, each byte's Class, Table at each place, and each class's Bytes.
func check(t *testing.T, name string, c classes.Classes, texts []string) {
	t.Helper()
	want, n := tableOf(texts)
	if got := c.Len(); got != n {
		t.Errorf("%s: Len is %d, not %d", name, got, n)
	}
	table := c.Table()
	bytesOf := make([][]byte, n)
	for b := range 256 {
		if got := c.Class(byte(b)); got != want[b] {
			t.Errorf("%s: Class of %q is %d, not %d", name, byte(b), got, want[b])
		}
		if table[b] != want[b] {
			t.Errorf("%s: Table has %d at %d, not %d", name, table[b], b, want[b])
		}
		bytesOf[want[b]] = append(bytesOf[want[b]], byte(b))
	}
	for k := range n {
		if got := c.Bytes(k); !bytes.Equal(got, bytesOf[k]) {
			t.Errorf("%s: Bytes of %d is %q, not %q", name, k, got, bytesOf[k])
		}
	}
	for _, k := range others(n) {
		if got := c.Bytes(k); len(got) != 0 {
			t.Errorf("%s: Bytes of %d, which is no class, is %q", name, k, got)
		}
	}
}

func TestClassesAreTheWords(t *testing.T) {
	for _, texts := range lists() {
		check(t, fmt.Sprintf("of %.60q", texts), of(texts...), texts)
	}
}

// Each byte alone, each byte but one, and each two bytes that are neighbours.
func TestEachByteIsTheWords(t *testing.T) {
	for b := range 256 {
		one := string([]byte{byte(b)})
		check(t, fmt.Sprintf("of %q", one), of(one), []string{one})
		most := without(byte(b))
		check(t, fmt.Sprintf("of all but %q", one), of(most), []string{most})
		two := string([]byte{byte(b + 1), byte(b)})
		check(t, fmt.Sprintf("of %q", two), of(two), []string{two})
	}
}

// P9.1

func TestOf(t *testing.T) {
	for _, x := range []struct {
		name  string
		texts []string
		above string // the bytes of the classes 1, 2, 3 and so on
	}{
		{"the example", []string{"ab", "b"}, "ab"},
		{"no texts", nil, ""},
		{"the empty text alone", []string{""}, ""},
		{"the empty text several times", []string{"", "", ""}, ""},
		{"the empty text among others", []string{"", "b", "", "a", ""}, "ab"},
		{"one text several times", []string{"ba", "ba", "ba"}, "ab"},
		{"one byte in several texts", []string{"ab", "ac", "da"}, "abcd"},
		{"one byte several times in a text", []string{"abaab"}, "ab"},
		{"not in the order in which they come", []string{"zya", "cb"}, "abcyz"},
		{"0 and 255", []string{"\xff", "a\x00"}, "\x00a\xff"},
		{"0 alone", []string{"\x00"}, "\x00"},
		{"255 alone", []string{"\xff\xff"}, "\xff"},
		{"bytes beyond ASCII", []string{"\xc3\xa4", "a\x80"}, "a\x80\xa4\xc3"},
		{"large letters beside small ones", []string{"bAaB"}, "ABab"},
		{"large letters alone", []string{"SEINE"}, "EINS"},
		{"a newline is a byte", []string{"a\n"}, "\na"},
		{"every byte", []string{backwards(everyByte())}, everyByte()},
		{"every byte, in two texts", []string{everyByte()[100:], everyByte()[:100]}, everyByte()},
		{"every byte, one by one", singles(), everyByte()},
		{"all but one", []string{without('a')}, without('a')},
		{"all but 0", []string{"", without(0)}, without(0)},
		{"all but 255, one by one", singles()[1:], without(255)},
	} {
		c := of(x.texts...)
		if got := c.Len(); got != len(x.above)+1 {
			t.Errorf("%s: Len is %d, not %d", x.name, got, len(x.above)+1)
		}
		table := c.Table()
		for b := range 256 {
			want := strings.IndexByte(x.above, byte(b)) + 1
			if got := c.Class(byte(b)); got != want {
				t.Errorf("%s: Class of %q is %d, not %d", x.name, byte(b), got, want)
			}
			if table[b] != want {
				t.Errorf("%s: Table has %d at %d, not %d", x.name, table[b], b, want)
			}
		}
	}
}

// Texts in another order, several times, cut, or with empty ones between have the same classes.
func TestTheBytesAlonePlayAPart(t *testing.T) {
	for _, texts := range lists() {
		c := of(texts...)
		other := slices.Clone(texts)
		slices.Reverse(other)
		joined := strings.Join(texts, "")
		for _, x := range []struct {
			name string
			same []string
		}{
			{"in another order", other},
			{"twice", append(slices.Clone(texts), texts...)},
			{"with empty ones", append([]string{"", ""}, append(other, "")...)},
			{"joined", []string{joined}},
			{"backwards", []string{backwards(joined)}},
			{"cut up", strings.Split(joined, "")},
		} {
			if got := of(x.same...); got != c {
				t.Errorf("%.60q, %s: %v, not %v", texts, x.name, got.Table(), c.Table())
			}
		}
	}
}

// What is nil and what is empty is one, as a list and as a text.
func TestNilIsEmpty(t *testing.T) {
	var none [][]byte
	for _, x := range []struct {
		name string
		c    classes.Classes
	}{
		{"a nil list", classes.Of(none...)},
		{"an empty list", classes.Of([][]byte{}...)},
		{"a nil text", classes.Of(nil, nil)},
		{"an empty text", classes.Of([]byte{})},
		{"both", classes.Of([]byte{}, nil)},
	} {
		check(t, x.name, x.c, nil)
	}
	check(t, "nil among others", classes.Of(nil, []byte("b"), nil, []byte("ab")), []string{"ab"})
}

func TestZeroIsThatOfNoTexts(t *testing.T) {
	var c classes.Classes
	check(t, "a zero Classes", c, nil)
	if c != classes.Of() || c != classes.Of(nil, []byte{}) {
		t.Error("a zero Classes isn't the same as Of without texts")
	}
	if c.Len() != 1 || len(c.Bytes(0)) != 256 || c.Table() != [256]int{} {
		t.Errorf("Len %d, class 0 has %d bytes", c.Len(), len(c.Bytes(0)))
	}
	if c == of("a") || c == of("\x00") || c == of("\xff") {
		t.Error("a zero Classes is the same as that of a text")
	}
}

// Two lists have the same classes just if the same bytes stand in them.
func TestSameClassesAreSameBytes(t *testing.T) {
	for _, one := range lists() {
		for _, other := range lists() {
			want := true
			for b := range 256 {
				want = want && stands(one, byte(b)) == stands(other, byte(b))
			}
			if got := of(one...) == of(other...); got != want {
				t.Errorf("%.60q and %.60q: the same is %v, not %v", one, other, got, want)
			}
		}
	}
}

// P9.2

func TestBytes(t *testing.T) {
	for _, x := range []struct {
		name  string
		texts []string
		k     int
		want  string
	}{
		{"the example's first", []string{"ab", "b"}, 1, "a"},
		{"the example's last", []string{"ab", "b"}, 2, "b"},
		{"the number of classes", []string{"ab", "b"}, 3, ""},
		{"one beyond it", []string{"ab", "b"}, 4, ""},
		{"class 0", []string{everyByte()[3:]}, 0, "\x00\x01\x02"},
		{"class 0 with both ends", []string{everyByte()[1:255]}, 0, "\x00\xff"},
		{"class 0 of all but one", []string{without('a')}, 0, "a"},
		{"class 0 where no byte has it", []string{everyByte()}, 0, ""},
		{"class 1 where no byte has class 0", []string{everyByte()}, 1, "\x00"},
		{"the last class where no byte has class 0", []string{everyByte()}, 256, "\xff"},
		{"one beyond the last class there", []string{everyByte()}, 257, ""},
		{"the last class of all but one", []string{without(255)}, 255, "\xfe"},
		{"one beyond the last class of all but one", []string{without(255)}, 256, ""},
		{"class 0 of no texts", nil, 0, everyByte()},
		{"class 0 of the empty text", []string{""}, 0, everyByte()},
		{"class 1 of no texts", nil, 1, ""},
		{"class 97 of a, which isn't its number", []string{"a"}, 97, ""},
		{"-1", []string{"ab", "b"}, -1, ""},
		{"-1 of no texts", nil, -1, ""},
		{"-1 where no byte has class 0", []string{everyByte()}, -1, ""},
		{"1 below -255", []string{"ab", "b"}, -256, ""},
		{"the least int", []string{"ab", "b"}, math.MinInt, ""},
		{"the greatest int", []string{"ab", "b"}, math.MaxInt, ""},
		{"1 with a bit beyond 32", []string{"ab", "b"}, 1<<32 + 1, ""},
		{"1 with a bit beyond 8", []string{"ab", "b"}, 1<<8 + 1, ""},
	} {
		if got := of(x.texts...).Bytes(x.k); string(got) != x.want {
			t.Errorf("%s: %q, not %q", x.name, got, x.want)
		}
	}
}

// P9.3

func TestOneClassJustIfNotToldApart(t *testing.T) {
	for _, texts := range lists() {
		c := of(texts...)
		for a := range 256 {
			for b := range 256 {
				want := a == b || !stands(texts, byte(a)) && !stands(texts, byte(b))
				if got := c.Class(byte(a)) == c.Class(byte(b)); got != want {
					t.Errorf("%.60q: %q and %q are of one class: %v, not %v", texts, byte(a), byte(b), got, want)
				}
			}
		}
	}
}

// Each byte is one of its class's and of no other's, and all classes together have each byte once.
func TestEachByteIsOneOfItsClass(t *testing.T) {
	for _, texts := range lists() {
		c := of(texts...)
		seen := [256]int{}
		for k := range c.Len() {
			l := c.Bytes(k)
			for i, b := range l {
				seen[b]++
				if c.Class(b) != k {
					t.Errorf("%.60q: %q is told of class %d, but has %d", texts, b, k, c.Class(b))
				}
				if i > 0 && l[i-1] >= b {
					t.Errorf("%.60q: Bytes of %d doesn't rise: %q", texts, k, l)
				}
			}
			if k > 0 && len(l) != 1 {
				t.Errorf("%.60q: class %d has %q", texts, k, l)
			}
		}
		for b, n := range seen {
			if n != 1 {
				t.Errorf("%.60q: %q is told %d times", texts, byte(b), n)
			}
		}
	}
}

// Rules 3 and 4

// spoil changes all bytes of a text, and those behind it where there is room.
func spoil(b []byte) {
	b = b[:cap(b)]
	for i := range b {
		b[i] = '~'
	}
}

func TestTextsAreNeitherChangedNorKept(t *testing.T) {
	for _, texts := range lists() {
		var l, wholes [][]byte
		for _, text := range texts {
			whole := []byte(text + "behind")
			l, wholes = append(l, whole[:len(text)]), append(wholes, whole)
		}
		roomy := append(l, []byte("room"))
		c := classes.Of(l...)
		for i, text := range texts {
			if string(wholes[i]) != text+"behind" || string(l[i]) != text {
				t.Errorf("%.60q: the text at %d was changed", texts, i)
			}
		}
		if string(roomy[len(l)]) != "room" {
			t.Errorf("%.60q: what is behind the list was changed", texts)
		}
		for i := range l {
			spoil(l[i])
			l[i] = []byte("|")
		}
		check(t, fmt.Sprintf("of %.60q, spoiled", texts), c, texts)
	}
}

// Whoever changes what Bytes or Table answered, or puts more behind it, changes neither the classes nor another answer.
func TestAnswersAreNewMemory(t *testing.T) {
	for _, texts := range lists() {
		c := of(texts...)
		for k := range c.Len() {
			l, other := c.Bytes(k), c.Bytes(k)
			ahead := string(other)
			_ = append(l, "xyz"...)
			spoil(l)
			if string(other) != ahead {
				t.Errorf("%.60q: two answers for class %d share memory", texts, k)
			}
		}
		table, other := c.Table(), c.Table()
		for b := range table {
			table[b] = -7
		}
		if want, _ := tableOf(texts); other != want {
			t.Errorf("%.60q: two tables share memory", texts)
		}
		check(t, fmt.Sprintf("of %.60q, its answers spoiled", texts), c, texts)
	}
}

// Classes are a value: neither a copy nor another one, made ahead or later, plays a part.
func TestClassesAreAlone(t *testing.T) {
	one, other := []string{"banana", "Seine"}, []string{"\x00\xff", "ab"}
	a := of(one...)
	b := of(other...)
	c := a
	a = of(other...)
	check(t, "the copy", c, one)
	check(t, "what was made anew", a, other)
	check(t, "the other one", b, other)
	check(t, "a zero Classes behind them", classes.Classes{}, nil)
	for range 3 {
		c.Bytes(0)
		c.Bytes(-1)
		c.Table()
		check(t, "asked again", c, one)
	}
	if a != b || a == c {
		t.Error("the same texts have other classes")
	}
}
