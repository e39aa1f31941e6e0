package fold_test

import (
	"bytes"
	"slices"
	"strings"
	"testing"

	"seine/fold"
)

const (
	capitals = "ABCDEFGHIJKLMNOPQRSTUVWXYZ"
	small    = "abcdefghijklmnopqrstuvwxyz"
	digits   = "0123456789"
)

func isCapital(c byte) bool { return strings.IndexByte(capitals, c) >= 0 }

// allBytes is each byte once, rising.
func allBytes() []byte {
	var l []byte
	for c := range 256 {
		l = append(l, byte(c))
	}
	return l
}

// texts are ordinary texts and edges, for what must hold of any text.
func texts() [][]byte {
	return [][]byte{
		nil,
		{},
		[]byte("a"),
		[]byte("A"),
		[]byte("Ab_9"),
		[]byte("aAaA"),
		[]byte("ZzZ\n\x00"),
		[]byte("@AZ[`az{/09:^_`"),
		[]byte("\xc3\x84\xc0\xd6\xde\xff\x80\x7f"),
		[]byte("K\u212a\u0130\u017f"),
		allBytes(),
		bytes.Repeat([]byte("Seine "), 300),
	}
}

// sets are sets with each of their numbers' edges.
func sets() []fold.Set {
	return []fold.Set{
		{},
		{1, 0, 0, 0},
		{1 << 63, 0, 0, 0},
		{0, 1, 0, 0},
		{0, 1 << 63, 0, 0},
		{0, 0, 1, 0},
		{0, 0, 1 << 63, 0},
		{0, 0, 0, 1},
		{0, 0, 0, 1 << 63},
		{1 | 1<<63, 1 | 1<<63, 1 | 1<<63, 1 | 1<<63},
		{0x0123456789abcdef, 0xfedcba9876543210, 0x5555555555555555, 0xaaaaaaaaaaaaaaaa},
		{^uint64(0), ^uint64(0), ^uint64(0), ^uint64(0)},
	}
}

// inSet is what P1.3 says of a set's bits, with divisions alone.
func inSet(s fold.Set, c int) bool {
	n := s[c/64]
	for range c % 64 {
		n /= 2
	}
	return n%2 == 1
}

// P1.1

func TestByteOfAll(t *testing.T) {
	for c := range 256 {
		want := byte(c)
		if i := strings.IndexByte(capitals, byte(c)); i >= 0 {
			want = small[i]
		}
		if got := fold.Byte(byte(c)); got != want {
			t.Errorf("Byte(%d) is %d, not %d", c, got, want)
		}
	}
}

func TestByteEdges(t *testing.T) {
	for _, x := range []struct{ c, want byte }{
		{0, 0}, {32, 32}, {64, 64}, {65, 97}, {66, 98}, {89, 121}, {90, 122}, {91, 91},
		{96, 96}, {97, 97}, {122, 122}, {123, 123}, {127, 127}, {128, 128},
		{192, 192}, {193, 193}, {218, 218}, {222, 222}, {255, 255},
	} {
		if got := fold.Byte(x.c); got != x.want {
			t.Errorf("Byte(%d) is %d, not %d", x.c, got, x.want)
		}
	}
}

func TestBytes(t *testing.T) {
	for _, x := range []struct{ b, want string }{
		{"", ""},
		{"Ab_9", "ab_9"},
		{"ab_9", "ab_9"},
		{capitals, small},
		{"CAB", "cab"},
		{"@AZ[`az{", "@az[`az{"},
		{"/09:^_`", "/09:^_`"},
		{"A\nB\r\n\x00C", "a\nb\r\n\x00c"},
		{"\xc3\x84X\xc1\xff\x80", "\xc3\x84x\xc1\xff\x80"},
		{"\u212a\u0130", "\u212a\u0130"},
	} {
		if got := string(fold.Bytes([]byte(x.b))); got != x.want {
			t.Errorf("Bytes(%q) is %q, not %q", x.b, got, x.want)
		}
	}
	if got := fold.Bytes(nil); len(got) != 0 {
		t.Errorf("Bytes(nil) is %q", got)
	}
}

func TestBytesIsEachByte(t *testing.T) {
	for _, b := range texts() {
		var want []byte
		for _, c := range b {
			want = append(want, fold.Byte(c))
		}
		if got := fold.Bytes(b); !bytes.Equal(got, want) {
			t.Errorf("Bytes(%q) is %q, not %q", b, got, want)
		}
	}
}

func TestFixed(t *testing.T) {
	for _, x := range []struct {
		b    string
		want bool
	}{
		{"", true},
		{"ab_9", true},
		{"Ab_9", false},
		{"aB", false},
		{"aA", false},
		{"Aa", false},
		{"abcABC", false},
		{"@[`{/:", true},
		{"A", false},
		{"Z", false},
		{"az", true},
		{small + digits + "_", true},
		{small + "Q" + small, false},
		{"\xc3\x84\xc1\xda\xff", true},
		{"\x00\n\x7f\x80", true},
	} {
		if got := fold.Fixed([]byte(x.b)); got != x.want {
			t.Errorf("Fixed(%q) is %t", x.b, got)
		}
	}
	if !fold.Fixed(nil) {
		t.Error("Fixed(nil) is false")
	}
}

func TestFixedOfOneAndTwoBytes(t *testing.T) {
	for c := range 256 {
		one := []byte{byte(c)}
		if got := fold.Fixed(one); got == isCapital(one[0]) {
			t.Errorf("Fixed(%q) is %t", one, got)
		}
		// The small letter beside it must not hide the capital.
		two := []byte{byte(c), byte(c) + 32}
		if got := fold.Fixed(two); got == (isCapital(two[0]) || isCapital(two[1])) {
			t.Errorf("Fixed(%q) is %t", two, got)
		}
	}
}

func TestFixedIsBytesTheSame(t *testing.T) {
	for _, b := range texts() {
		if got, want := fold.Fixed(b), bytes.Equal(fold.Bytes(b), b); got != want {
			t.Errorf("Fixed(%q) is %t", b, got)
		}
	}
}

// P1.2

func TestWordOfAll(t *testing.T) {
	for c := range 256 {
		want := strings.IndexByte(capitals+small+digits+"_", byte(c)) >= 0
		if got := fold.Word(byte(c)); got != want {
			t.Errorf("Word(%d) is %t", c, got)
		}
	}
}

func TestWordEdges(t *testing.T) {
	for _, c := range []byte{'A', 'M', 'Z', 'a', 'm', 'z', '0', '5', '9', '_'} {
		if !fold.Word(c) {
			t.Errorf("Word(%q) is false", c)
		}
	}
	for _, c := range []byte{'/', ':', '@', '[', '^', '`', '{', '-', ' ', '\n', 0, 127, 128, 192, 0xe9, 255} {
		if fold.Word(c) {
			t.Errorf("Word(%q) is true", c)
		}
	}
}

// P1.3

func TestOf(t *testing.T) {
	for _, x := range []struct {
		b    []byte
		want fold.Set
	}{
		{nil, fold.Set{}},
		{[]byte{}, fold.Set{}},
		{[]byte{0, 64, 65}, fold.Set{1, 3, 0, 0}},
		{[]byte{65, 0, 64, 0, 65}, fold.Set{1, 3, 0, 0}},
		{[]byte{0}, fold.Set{1, 0, 0, 0}},
		{[]byte{63}, fold.Set{1 << 63, 0, 0, 0}},
		{[]byte{64}, fold.Set{0, 1, 0, 0}},
		{[]byte{127}, fold.Set{0, 1 << 63, 0, 0}},
		{[]byte{128}, fold.Set{0, 0, 1, 0}},
		{[]byte{191}, fold.Set{0, 0, 1 << 63, 0}},
		{[]byte{192}, fold.Set{0, 0, 0, 1}},
		{[]byte{255}, fold.Set{0, 0, 0, 1 << 63}},
		{[]byte{255, 3, 64, 3}, fold.Set{8, 1, 0, 1 << 63}},
		{[]byte{0, 63, 64, 127, 128, 191, 192, 255}, fold.Set{1 | 1<<63, 1 | 1<<63, 1 | 1<<63, 1 | 1<<63}},
		{allBytes(), fold.Set{^uint64(0), ^uint64(0), ^uint64(0), ^uint64(0)}},
	} {
		if got := fold.Of(x.b); got != x.want {
			t.Errorf("Of(%v) is %v, not %v", x.b, got, x.want)
		}
	}
}

func TestHas(t *testing.T) {
	for _, s := range sets() {
		for c := range 256 {
			if got := s.Has(byte(c)); got != inSet(s, c) {
				t.Errorf("%v.Has(%d) is %t", s, c, got)
			}
		}
	}
}

func TestWith(t *testing.T) {
	for _, s := range sets() {
		for c := range 256 {
			ahead := s
			got := s.With(byte(c))
			if s != ahead {
				t.Fatalf("With(%d) changed %v to %v", c, ahead, s)
			}
			for d := range 256 {
				if inSet(got, d) != (inSet(s, d) || d == c) {
					t.Errorf("%v.With(%d) is wrong in %d", s, c, d)
				}
			}
		}
	}
}

func TestUnion(t *testing.T) {
	for _, s := range sets() {
		for _, o := range sets() {
			s1, o1 := s, o
			got := s.Union(o)
			if s != s1 || o != o1 {
				t.Fatalf("Union changed %v, %v", s1, o1)
			}
			for c := range 256 {
				if inSet(got, c) != (inSet(s, c) || inSet(o, c)) {
					t.Errorf("%v.Union(%v) is wrong in %d", s, o, c)
				}
			}
		}
	}
}

func TestLenAndList(t *testing.T) {
	for _, s := range sets() {
		var want []byte
		for c := range 256 {
			if inSet(s, c) {
				want = append(want, byte(c))
			}
		}
		if got := s.List(); !bytes.Equal(got, want) {
			t.Errorf("%v.List() is %v, not %v", s, got, want)
		}
		if got := s.Len(); got != len(want) {
			t.Errorf("%v.Len() is %d, not %d", s, got, len(want))
		}
	}
}

func TestListOfEdges(t *testing.T) {
	want := []byte{0, 63, 64, 127, 128, 191, 192, 255}
	turned := slices.Clone(want)
	slices.Reverse(turned)
	s := fold.Of(append(turned, turned...))
	if got := s.List(); !bytes.Equal(got, want) || s.Len() != 8 {
		t.Errorf("%v, %d", got, s.Len())
	}
	var none fold.Set
	if len(none.List()) != 0 || none.Len() != 0 || none.Has(0) {
		t.Error("the empty set isn't empty")
	}
	if got := fold.Of(allBytes()); got.Len() != 256 || !bytes.Equal(got.List(), allBytes()) {
		t.Errorf("all bytes: %d", got.Len())
	}
}

// P1.4

func TestBytesOfBytes(t *testing.T) {
	for _, b := range texts() {
		once := fold.Bytes(b)
		if twice := fold.Bytes(once); !bytes.Equal(once, twice) || !fold.Fixed(once) {
			t.Errorf("%q: %q, then %q", b, once, twice)
		}
	}
}

func TestSetOfList(t *testing.T) {
	for _, s := range sets() {
		if got := fold.Of(s.List()); got != s {
			t.Errorf("%v: %v", s, got)
		}
	}
	for _, b := range texts() {
		if s := fold.Of(b); fold.Of(s.List()) != s {
			t.Errorf("%q: %v", b, s)
		}
	}
}

// DOC.md, rule 3

func TestNothingHandedInIsChanged(t *testing.T) {
	for _, b := range texts() {
		// Bytes behind the text, where there is room, aren't the function's either.
		room := append(slices.Clone(b), "Tail"...)
		ahead := slices.Clone(room)
		part := room[:len(b)]
		fold.Bytes(part)
		fold.Fixed(part)
		fold.Of(part)
		if !bytes.Equal(room, ahead) {
			t.Errorf("%q was changed to %q", ahead, room)
		}
	}
}

func TestBytesIsNewMemory(t *testing.T) {
	for _, text := range []string{"a", "ab_9", "Ab_9", "ZZ"} {
		b := []byte(text)
		got, other := fold.Bytes(b), fold.Bytes(b)
		want := string(got)
		b[0] = '!'
		other[0] = '?'
		if string(got) != want {
			t.Errorf("Bytes(%q) shares memory", text)
		}
		got[0] = '#'
		if b[0] != '!' || other[0] != '?' {
			t.Errorf("Bytes(%q) shares memory", text)
		}
	}
}

func TestListIsNewMemory(t *testing.T) {
	s := fold.Of([]byte("abc"))
	l, other := s.List(), s.List()
	l[0] = 'x'
	l = append(l, 'y')
	if string(other) != "abc" || string(s.List()) != "abc" || s != fold.Of([]byte("abc")) || string(l) != "xbcy" {
		t.Errorf("%q, %q", other, s.List())
	}
}

func TestOfKeepsNothing(t *testing.T) {
	b := []byte("abc")
	s := fold.Of(b)
	b[0] = 'x'
	if string(s.List()) != "abc" {
		t.Errorf("%q", s.List())
	}
}
