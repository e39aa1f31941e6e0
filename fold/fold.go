// Package fold is bytes without case, those of words, and sets of bytes.
package fold

import "math/bits"

// Set is a set of bytes: bit c%64 of number c/64 tells whether c is in it.
type Set [4]uint64

// bit is a byte's place within its number of a set.
func bit(c byte) uint64 { return uint64(1) << (c % 64) }

// Of is the set of some bytes.
func Of(b []byte) Set {
	var s Set
	for _, c := range b {
		s = s.With(c)
	}
	return s
}

// Has tells whether a byte is in a set.
func (s Set) Has(c byte) bool { return s[c/64]&bit(c) != 0 }

// With is a set with one byte more.
func (s Set) With(c byte) Set {
	s[c/64] |= bit(c)
	return s
}

// Union is the bytes of both.
func (s Set) Union(o Set) Set {
	for i := range len(s) {
		s[i] |= o[i]
	}
	return s
}

// Len is how many bytes there are.
func (s Set) Len() int {
	n := 0
	for i := range len(s) {
		n += bits.OnesCount64(s[i])
	}
	return n
}

// List is the bytes, rising.
func (s Set) List() []byte {
	var l []byte
	// An int goes through them: a byte would come round to 0 and never end.
	for c := range 256 {
		if s.Has(byte(c)) {
			l = append(l, byte(c))
		}
	}
	return l
}

// Byte is a byte without case.
func Byte(c byte) byte {
	if 'A' <= c && c <= 'Z' {
		return c + ('a' - 'A')
	}
	return c
}

// Bytes is bytes without case.
func Bytes(b []byte) []byte {
	l := make([]byte, len(b))
	for i, c := range b {
		l[i] = Byte(c)
	}
	return l
}

// Fixed tells whether bytes are without case.
//
// The sets alone tell it: what Bytes answers has no capital letter, so the two
// sets are the same just if b has none either; and then Bytes changes nothing.
func Fixed(b []byte) bool { return Of(Bytes(b)) == Of(b) }

// Word tells whether a byte is one of words.
func Word(c byte) bool {
	small := Byte(c)
	return 'a' <= small && small <= 'z' || '0' <= c && c <= '9' || c == '_'
}
