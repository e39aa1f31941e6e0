package stream_test

import (
	"bytes"
	"fmt"
	"math"
	"slices"
	"strings"
	"testing"

	"seine/api"
	"seine/lines"
	"seine/meter"
	"seine/stream"
)

// free is a most that no line comes to.
const free = math.MaxInt

// model is the words: what came, what the window holds and has room for, and what was read and moved.
type model struct {
	most     int
	num, off int
	held     string
	room     int
	hunt     int
	move     int
	over     bool
	failed   bool
}

// modelOf is the words of a new stream.
func modelOf(most int) *model { return &model{most: max(most, 0)} }

// add is P18.2.
func (m *model) add(b string) {
	if b == "" {
		return
	}
	k, n := len(m.held), len(b)
	if k+n > m.room {
		m.room = slices.Max([]int{2 * m.room, k + n, 16})
		m.move += k
	}
	m.move += n
	m.held += b
}

// line is the next line that is told.
func (m *model) line(text string) stream.Line {
	l := stream.Line{Num: m.num, Off: m.off, Text: []byte(text)}
	m.num++
	m.off += len(text) + 1
	return l
}

// feed is P20.1 and P20.2.
func (m *model) feed(chunk string) []stream.Line {
	var told []stream.Line
	for !m.over {
		part, rest, ends := strings.Cut(chunk, "\n")
		if more := m.most - len(m.held); len(part) > more {
			m.hunt += more + 1
			m.over, m.failed, m.held = true, true, ""
			break
		}
		m.hunt += len(part)
		if !ends {
			m.add(part)
			break
		}
		m.hunt++
		if m.held != "" {
			m.add(part)
			part, m.held = m.held, ""
		}
		told = append(told, m.line(part))
		chunk = rest
	}
	return told
}

// end is P20.3.
func (m *model) end() []stream.Line {
	if m.over || m.held == "" {
		m.over = true
		return nil
	}
	m.over = true
	return []stream.Line{m.line(m.held)}
}

// err is what P20.1 says of Err.
func (m *model) err() (api.Errno, int) {
	if m.failed {
		return api.LineCap, m.num
	}
	return api.OK, 0
}

// counts is what is counted.
func (m *model) counts() meter.Counts { return meter.Counts{Hunt: m.hunt, Move: m.move} }

// shown is lines as one text in which no two lists of lines look alike.
func shown(l []stream.Line) string {
	var all []string
	for _, x := range l {
		all = append(all, fmt.Sprintf("%d at %d %q", x.Num, x.Off, x.Text))
	}
	return strings.Join(all, ", ")
}

// same tells whether two lists of lines are one.
func same(a, b []stream.Line) bool {
	return slices.EqualFunc(a, b, func(x, y stream.Line) bool {
		return x.Num == y.Num && x.Off == y.Off && bytes.Equal(x.Text, y.Text)
	})
}

// tells holds what a stream told against the words.
func tells(t *testing.T, name string, got, want []stream.Line) {
	t.Helper()
	if !same(got, want) {
		t.Fatalf("%s: told %.300s, not %.300s", name, shown(got), shown(want))
	}
}

// errs holds what Err tells.
func errs(t *testing.T, name string, s *stream.Stream, err api.Errno, num int) {
	t.Helper()
	if e, n := s.Err(); e != err || n != num {
		t.Fatalf("%s: Err is %d, %d, not %d, %d", name, e, n, err, num)
	}
}

// counts holds what a meter counted.
func counts(t *testing.T, name string, q *meter.Meter, want meter.Counts) {
	t.Helper()
	if got := q.Counts(); got != want {
		t.Fatalf("%s: counted %v, not %v", name, got, want)
	}
}

// pair is a stream and the words of it.
type pair struct {
	s *stream.Stream
	m *model
	q *meter.Meter
}

// pairOf is a new stream, and its words.
func pairOf(most int) pair {
	q := meter.New()
	return pair{stream.New(q, most), modelOf(most), q}
}

// holds holds Err, and what was counted, against the words.
func (p pair) holds(t *testing.T, name string) {
	t.Helper()
	e, n := p.m.err()
	errs(t, name, p.s, e, n)
	counts(t, name, p.q, p.m.counts())
}

// feed hands a chunk in, and holds all that is told then against the words.
func (p pair) feed(t *testing.T, name, chunk string) []stream.Line {
	t.Helper()
	got := p.s.Feed([]byte(chunk))
	tells(t, name, got, p.m.feed(chunk))
	p.holds(t, name)
	return got
}

// end ends the stream, and holds all that is told then against the words.
func (p pair) end(t *testing.T, name string) []stream.Line {
	t.Helper()
	got := p.s.End()
	tells(t, name, got, p.m.end())
	p.holds(t, name)
	return got
}

// check hands chunks in, ends the stream, and holds each step against the words, and all lines against lines.Split.
func check(t *testing.T, most int, chunks []string) {
	t.Helper()
	p, bare := pairOf(most), stream.New(nil, most)
	var told []stream.Line
	name := func(what string, i int) string {
		return fmt.Sprintf("most %d, %s of %.300q", most, what, chunks[max(0, i-9):i])
	}
	for i, chunk := range chunks {
		at := fmt.Sprintf("most %d, chunk %d", most, i)
		// Where there are many chunks it would take too long.
		if len(chunks) < 100 {
			at = name("the last one", i+1)
		}
		got := p.feed(t, at, chunk)
		tells(t, at+" (nil meter)", bare.Feed([]byte(chunk)), got)
		told = append(told, got...)
	}
	at := name("the end", len(chunks))
	got := p.end(t, at)
	tells(t, at+" (nil meter)", bare.End(), got)
	e, n := p.m.err()
	errs(t, at+" (nil meter)", bare, e, n)
	p.silent(t, at)
	splits(t, at, most, strings.Join(chunks, ""), append(told, got...), p)
}

// silent holds that a stream that is over does nothing, and tells nothing.
func (p pair) silent(t *testing.T, name string) {
	t.Helper()
	for range 2 {
		for _, chunk := range []string{"", "a", "\n", "a\nb", "\n\n\n"} {
			p.feed(t, name+", fed afterwards", chunk)
		}
		p.end(t, name+", ended again")
	}
}

// splits holds what was told of all bytes against their lines, and what was counted against how many there are: P20.4.
func splits(t *testing.T, name string, most int, all string, told []stream.Line, p pair) {
	t.Helper()
	var want []stream.Line
	err, num, hunt := api.OK, 0, len(all)
	for i, l := range lines.Split([]byte(all)) {
		if len(l.Text) > max(most, 0) {
			err, num, hunt = api.LineCap, i, l.Off+max(most, 0)+1
			break
		}
		want = append(want, stream.Line{Num: i, Off: l.Off, Text: l.Text})
	}
	tells(t, name, told, want)
	errs(t, name, p.s, err, num)
	got := p.q.Counts()
	if got.Hunt != hunt || got.Move > 3*hunt || got.Scan != 0 || got.Look != 0 {
		t.Fatalf("%s: counted %v of %d bytes that are read", name, got, hunt)
	}
}

// cutsOf are all ways to cut a text into chunks that aren't empty.
func cutsOf(text string) [][]string {
	if text == "" {
		return [][]string{nil}
	}
	all := [][]string{{text}}
	for i := 1; i < len(text); i++ {
		for _, behind := range cutsOf(text[i:]) {
			all = append(all, append([]string{text[:i]}, behind...))
		}
	}
	return all
}

// textsOf are all texts of at most most bytes, of some.
func textsOf(some string, most int) []string {
	all := []string{""}
	longest := all
	for range most {
		var longer []string
		for _, text := range longest {
			for i := range len(some) {
				longer = append(longer, text+some[i:i+1])
			}
		}
		all = append(all, longer...)
		longest = longer
	}
	return all
}

// bytesOf are a text's bytes, each as a chunk.
func bytesOf(text string) []string {
	var l []string
	for i := range len(text) {
		l = append(l, text[i:i+1])
	}
	return l
}

// someText is n bytes, none of which is a newline; they differ by from where they begin.
func someText(from, n int) string {
	b := make([]byte, n)
	for i := range b {
		b[i] = byte(7*from + 11*i)
		if b[i] == '\n' {
			b[i] = 'N'
		}
	}
	return string(b)
}

// rule is numbers that don't soon come round, each below n.
func rule(seed uint32) func(n int) int {
	return func(n int) int {
		seed = seed*1664525 + 1013904223
		return int(seed>>8) % n
	}
}

// someChunks are chunks of 0 to size bytes; a byte is a newline about once in often.
func someChunks(seed uint32, many, size, often int) []string {
	next := rule(seed)
	var l []string
	for range many {
		b := make([]byte, next(size+1))
		for i := range b {
			b[i] = byte(next(256))
			if next(often) == 0 {
				b[i] = '\n'
			}
		}
		l = append(l, string(b))
	}
	return l
}

// roomy is a text with bytes behind it, where there is room; they are no part of it.
func roomy(text string) (room, part []byte) {
	room = []byte(text + "Tail")
	return room, room[:len(text)]
}

// spoil changes all bytes of a text, and those behind it where there is room.
func spoil(b []byte) {
	b = b[:cap(b)]
	for i := range b {
		b[i] ^= 0x5a
	}
}

// P20.1

func TestNewHasNothing(t *testing.T) {
	for _, most := range []int{math.MinInt, -1, 0, 1, api.MaxLine, free} {
		p := pairOf(most)
		if p.s == nil {
			t.Fatal("no stream")
		}
		for range 2 {
			p.holds(t, fmt.Sprint("new, most ", most))
		}
		if got := p.s.End(); len(got) != 0 {
			t.Fatalf("without a chunk %s is told", shown(got))
		}
		p.holds(t, fmt.Sprint("ended, most ", most))
	}
}

// fed is a chunk, what is told of it, and what was read and moved up to its end.
type fed struct {
	chunk, told string
	hunt, move  int
}

// step hands the chunk in, and holds what is told, read and moved.
func (f fed) step(t *testing.T, name string, s *stream.Stream, q *meter.Meter) {
	t.Helper()
	if got := shown(s.Feed([]byte(f.chunk))); got != f.told {
		t.Fatalf("%s: told %s, not %s", name, got, f.told)
	}
	counts(t, name, q, meter.Counts{Hunt: f.hunt, Move: f.move})
}

// TestStepsByHand holds what is told, read and moved at each step; what End tells is the last thing, and it reads and moves nothing.
func TestStepsByHand(t *testing.T) {
	for _, x := range []struct {
		most int
		feds []fed
		end  string
	}{
		// The chapter's example.
		{free, []fed{{"ab", ``, 2, 2}, {"c\nd", `0 at 0 "abc"`, 5, 4}, {"\n", `1 at 4 "d"`, 6, 4}}, ``},
		// No chunks, and empty ones.
		{free, nil, ``},
		{free, []fed{{"", ``, 0, 0}, {"", ``, 0, 0}}, ``},
		{free, []fed{{"", ``, 0, 0}, {"a", ``, 1, 1}, {"", ``, 1, 1}, {"\n", `0 at 0 "a"`, 2, 1}, {"", ``, 2, 1}}, ``},
		// One chunk of all bytes: lines that it holds whole aren't moved.
		{free, []fed{{"ab\n", `0 at 0 "ab"`, 3, 0}}, ``},
		{free, []fed{{"ab\nc\n", `0 at 0 "ab", 1 at 3 "c"`, 5, 0}}, ``},
		{free, []fed{{"ab\ncde", `0 at 0 "ab"`, 6, 3}}, `1 at 3 "cde"`},
		{free, []fed{{"ab", ``, 2, 2}}, `0 at 0 "ab"`},
		// A newline first, last, two in a row, and alone in a chunk.
		{free, []fed{{"\n", `0 at 0 ""`, 1, 0}}, ``},
		{free, []fed{{"\n\n", `0 at 0 "", 1 at 1 ""`, 2, 0}}, ``},
		{free, []fed{{"\na", `0 at 0 ""`, 2, 1}}, `1 at 1 "a"`},
		{free, []fed{{"\n\na\n\nb\n", `0 at 0 "", 1 at 1 "", 2 at 2 "a", 3 at 4 "", 4 at 5 "b"`, 7, 0}}, ``},
		{free, []fed{{"\n", `0 at 0 ""`, 1, 0}, {"\n", `1 at 1 ""`, 2, 0}, {"a", ``, 3, 1}, {"\n", `2 at 2 "a"`, 4, 1}, {"\n", `3 at 4 ""`, 5, 1}}, ``},
		{free, []fed{{"ab", ``, 2, 2}, {"\n", `0 at 0 "ab"`, 3, 2}, {"c", ``, 4, 3}}, `1 at 3 "c"`},
		// A newline at a chunk's front and at its end.
		{free, []fed{{"ab", ``, 2, 2}, {"\ncd\n", `0 at 0 "ab", 1 at 3 "cd"`, 6, 2}, {"ef\n", `2 at 6 "ef"`, 9, 2}}, ``},
		{free, []fed{{"a\n", `0 at 0 "a"`, 2, 0}, {"\n", `1 at 2 ""`, 3, 0}, {"\nb", `2 at 3 ""`, 5, 1}, {"\n\n", `3 at 4 "b", 4 at 6 ""`, 7, 1}}, ``},
		// A line over three chunks; behind the one that ends it one that is held whole, and one that hasn't ended.
		{free, []fed{{"a", ``, 1, 1}, {"bc", ``, 3, 3}, {"d\ne\nfg", `0 at 0 "abcd", 1 at 5 "e"`, 9, 6}}, `2 at 7 "fg"`},
		// A line that ends in a chunk in which the window holds some of it, and one behind it: just the first one's rest is moved.
		{free, []fed{{"a", ``, 1, 1}, {"bcd\nefgh\n", `0 at 0 "abcd", 1 at 5 "efgh"`, 10, 4}}, ``},
		// What the window holds is moved, too, when it is made wider.
		{free, []fed{{"0123456789", ``, 10, 10}, {"abcdefg", ``, 17, 27}, {"\n", `0 at 0 "0123456789abcdefg"`, 18, 27}}, ``},
		{free, []fed{{"0123456789abcdef", ``, 16, 16}, {"g\n", `0 at 0 "0123456789abcdefg"`, 18, 33}}, ``},
		{free, []fed{{"0123456789abcde", ``, 15, 15}, {"f\n", `0 at 0 "0123456789abcdef"`, 17, 16}}, ``},
		{free, []fed{{"0123456789abcdef", ``, 16, 16}, {"\n", `0 at 0 "0123456789abcdef"`, 17, 16}}, ``},
		// Its room stays when it is cleared.
		{free, []fed{{"0123456789abcdef", ``, 16, 16}, {"g\n", `0 at 0 "0123456789abcdefg"`, 18, 33}, {"0123456789abcdef", ``, 34, 49}, {"g\n", `1 at 18 "0123456789abcdefg"`, 36, 50}}, ``},
		// Bytes that are no newline, though others take them for one, or for an end.
		{free, []fed{{"\r\n\r", `0 at 0 "\r"`, 3, 1}, {"\n", `1 at 2 "\r"`, 4, 1}}, ``},
		{free, []fed{{"\x00\n\xff", `0 at 0 "\x00"`, 3, 1}, {"\x00", ``, 4, 2}}, `1 at 2 "\xff\x00"`},
		{free, []fed{{"\xe2\x80", ``, 2, 2}, {"\xa8\v\f", ``, 5, 5}, {"\x85\n", `0 at 0 "\u2028\v\f\x85"`, 7, 6}}, ``},
		// A most that no line is above.
		{3, []fed{{"abc\nab\n\nabc", `0 at 0 "abc", 1 at 4 "ab", 2 at 7 ""`, 11, 3}, {"\n", `3 at 8 "abc"`, 12, 3}, {"a", ``, 13, 4}, {"bc", ``, 15, 6}}, `4 at 12 "abc"`},
		{0, []fed{{"\n\n", `0 at 0 "", 1 at 1 ""`, 2, 0}, {"\n", `2 at 2 ""`, 3, 0}}, ``},
	} {
		q := meter.New()
		s := stream.New(q, x.most)
		var chunks []string
		for _, f := range x.feds {
			chunks = append(chunks, f.chunk)
			name := fmt.Sprintf("most %d, the last one of %q", x.most, chunks)
			f.step(t, name, s, q)
			errs(t, name, s, api.OK, 0)
		}
		was := q.Counts()
		if got := shown(s.End()); got != x.end {
			t.Fatalf("the end of %q: told %s, not %s", chunks, got, x.end)
		}
		counts(t, fmt.Sprintf("the end of %q", chunks), q, was)
		errs(t, fmt.Sprintf("the end of %q", chunks), s, api.OK, 0)
		check(t, x.most, chunks)
	}
}

func TestFailsByHand(t *testing.T) {
	const least = math.MinInt
	for _, x := range []struct {
		most int
		feds []fed
		num  int
	}{
		// One byte more than most: within a chunk, at its end, as its first byte.
		{2, []fed{{"ab\ncd\nefg\nh\n", `0 at 0 "ab", 1 at 3 "cd"`, 9, 0}}, 2},
		{3, []fed{{"abcd", ``, 4, 0}}, 0},
		{3, []fed{{"abc", ``, 3, 3}, {"d", ``, 4, 3}}, 0},
		{3, []fed{{"abc", ``, 3, 3}, {"def\n\n", ``, 4, 3}}, 0},
		{3, []fed{{"abc\n", `0 at 0 "abc"`, 4, 0}, {"abcd\n", ``, 8, 0}}, 1},
		// Over two chunks, and over more; what the one that fails has isn't moved.
		{3, []fed{{"ab", ``, 2, 2}, {"cd\n", ``, 4, 2}}, 0},
		{3, []fed{{"a", ``, 1, 1}, {"", ``, 1, 1}, {"b", ``, 2, 2}, {"c", ``, 3, 3}, {"d", ``, 4, 3}}, 0},
		// A line ahead of it in the chunk, of which the window holds some, is told, and its rest is moved.
		{3, []fed{{"ab", ``, 2, 2}, {"c\ndefg\nh", `0 at 0 "abc"`, 8, 3}}, 1},
		{3, []fed{{"ab", ``, 2, 2}, {"\n\ndefg", `0 at 0 "ab", 1 at 3 ""`, 8, 2}}, 2},
		{3, []fed{{"abc", ``, 3, 3}, {"\nd", `0 at 0 "abc"`, 5, 4}, {"efg", ``, 8, 4}}, 1},
		// What the window held of a line that ended doesn't count for the next one.
		{3, []fed{{"abc", ``, 3, 3}, {"\nabc", `0 at 0 "abc"`, 7, 6}, {"\nabc", `1 at 4 "abc"`, 11, 9}, {"d", ``, 12, 9}}, 2},
		// A most of 1, of 0, and below 0.
		{1, []fed{{"a\n\nb\ncd", `0 at 0 "a", 1 at 2 "", 2 at 3 "b"`, 7, 0}}, 3},
		{0, []fed{{"a", ``, 1, 0}}, 0},
		{0, []fed{{"\n\nx", `0 at 0 "", 1 at 1 ""`, 3, 0}}, 2},
		{0, []fed{{"\n", `0 at 0 ""`, 1, 0}, {"\r\n", ``, 2, 0}}, 1},
		{0, []fed{{"\x00", ``, 1, 0}}, 0},
		{-1, []fed{{"a", ``, 1, 0}}, 0},
		{-4, []fed{{"\n\nxy", `0 at 0 "", 1 at 1 ""`, 3, 0}}, 2},
		{least, []fed{{"\n", `0 at 0 ""`, 1, 0}, {"\xff\n", ``, 2, 0}}, 1},
		{least + 1, []fed{{"\nab", `0 at 0 ""`, 2, 0}}, 1},
		// Just one line is told as the one that failed: the first.
		{1, []fed{{"a\nbc\nde\n\n", `0 at 0 "a"`, 4, 0}}, 1},
	} {
		q := meter.New()
		s := stream.New(q, x.most)
		var chunks []string
		for _, f := range x.feds {
			// Just the last chunk fails.
			errs(t, fmt.Sprintf("most %d, behind %q", x.most, chunks), s, api.OK, 0)
			chunks = append(chunks, f.chunk)
			f.step(t, fmt.Sprintf("most %d, the last one of %q", x.most, chunks), s, q)
		}
		was := q.Counts()
		for range 3 {
			name := fmt.Sprintf("most %d, behind %q", x.most, chunks)
			errs(t, name, s, api.LineCap, x.num)
			for _, chunk := range []string{"\n", "", "a", "a\n", "\n\n\n"} {
				tells(t, name, s.Feed([]byte(chunk)), nil)
			}
			tells(t, name, s.End(), nil)
			counts(t, name, q, was)
			errs(t, name, s, api.LineCap, x.num)
		}
		check(t, x.most, chunks)
	}
}

// TestLinesAroundMost holds lines of a few bytes less than most, of just most, and of more, at each place of a chunk, and cut at each place.
func TestLinesAroundMost(t *testing.T) {
	for _, most := range []int{1, 2, 5, 15, 16, 17, 33, api.MaxLine} {
		for n := max(0, most-2); n < most+3; n++ {
			text := someText(n, n)
			for _, behind := range []string{"", "\n", "\nx", "\n\n"} {
				for _, ahead := range []string{"", "\n", "x\n"} {
					all := ahead + text + behind
					check(t, most, []string{all})
					check(t, most, bytesOf(all))
					for i := range len(all) + 1 {
						check(t, most, []string{all[:i], all[i:]})
					}
				}
			}
		}
	}
}

func TestMostIsGreat(t *testing.T) {
	text := someText(3, 5000)
	for _, most := range []int{5000, 5001, 1 << 32, math.MaxInt - 1, math.MaxInt} {
		check(t, most, []string{text, "\n", text + "\n" + text})
	}
	for _, most := range []int{4999, 1, -1 << 32, -1<<32 + 5000, math.MinInt} {
		check(t, most, []string{"\n", text + "\n"})
	}
}

func TestEveryByte(t *testing.T) {
	for c := range 256 {
		b := string([]byte{byte(c)})
		for _, most := range []int{0, 1, 2, 5, free} {
			check(t, most, []string{b})
			check(t, most, []string{b, "\n"})
			check(t, most, []string{b + b, b, "\n" + b})
			check(t, most, []string{"a" + b + "a"})
		}
	}
	// All others are of one line.
	var all []byte
	for c := range 256 {
		if c != '\n' {
			all = append(all, byte(c))
		}
	}
	for _, chunks := range [][]string{{string(all)}, bytesOf(string(all)), {string(all[:100]), string(all[100:]) + "\n"}} {
		s := stream.New(nil, 255)
		var told []stream.Line
		for _, chunk := range chunks {
			told = append(told, s.Feed([]byte(chunk))...)
		}
		tells(t, "all but newlines", append(told, s.End()...), []stream.Line{{Text: all}})
	}
}

func TestMeterThatCountedBefore(t *testing.T) {
	q := meter.New()
	text := q.Text([]byte("ab"))
	text.At(0)
	text.At(1)
	q.Sparse().Look(0, 'a')
	q.Read([]byte("abc"), 0)
	q.Copy(make([]byte, 4), []byte("abcd"))
	s := stream.New(q, 5)
	counts(t, "new", q, meter.Counts{Scan: 2, Look: 1, Hunt: 1, Move: 4})
	s.Feed([]byte("ab"))
	s.Feed([]byte("c\nd"))
	counts(t, "fed", q, meter.Counts{Scan: 2, Look: 1, Hunt: 6, Move: 8})
	text.At(0)
	q.Read([]byte("abc"), 2)
	s.End()
	counts(t, "ended", q, meter.Counts{Scan: 3, Look: 1, Hunt: 7, Move: 8})
}

func TestCountsByItsMeter(t *testing.T) {
	q, other := meter.New(), meter.New()
	s := stream.New(q, free)
	stream.New(other, free)
	s.Feed([]byte("ab\ncd"))
	s.End()
	counts(t, "its meter", q, meter.Counts{Hunt: 5, Move: 2})
	counts(t, "another meter", other, meter.Counts{})
}

func TestTwoStreamsOfOneMeter(t *testing.T) {
	q := meter.New()
	one, two := stream.New(q, 30), stream.New(q, 9)
	a, b := modelOf(30), modelOf(9)
	for i := range 60 {
		name := fmt.Sprint("step ", i)
		first, second := someText(i, i%9)+"\n"[:i%4/3], someText(i, i%5)+"\n"[:i%2]
		if i == 50 {
			second += strings.Repeat("x", 10)
		}
		tells(t, name+", the first", one.Feed([]byte(first)), a.feed(first))
		tells(t, name+", the second", two.Feed([]byte(second)), b.feed(second))
		counts(t, name, q, meter.Counts{Hunt: a.hunt + b.hunt, Move: a.move + b.move})
	}
	errs(t, "the first", one, api.OK, 0)
	errs(t, "the second", two, api.LineCap, b.num)
	tells(t, "the end of the first", one.End(), a.end())
	tells(t, "the end of the second", two.End(), b.end())
	counts(t, "the end", q, meter.Counts{Hunt: a.hunt + b.hunt, Move: a.move + b.move})
}

// P20.2

// TestMovedAtOnce holds that bytes are moved when a chunk ends, as they came, and not later.
func TestMovedAtOnce(t *testing.T) {
	for _, size := range []int{1, 2, 3, 7, 15, 16, 17, 33, 100} {
		p := pairOf(free)
		for i := range 20 {
			was := p.q.Counts()
			chunk := someText(i, size)
			p.feed(t, fmt.Sprintf("chunk %d of %d bytes", i, size), chunk)
			if got := p.q.Counts(); got.Move < was.Move+size || got.Hunt != was.Hunt+size {
				t.Fatalf("chunk %d of %d bytes: counted %v, ahead of it %v", i, size, got, was)
			}
		}
		was := p.q.Counts()
		p.feed(t, "a newline", "\n")
		counts(t, "a newline", p.q, meter.Counts{Hunt: was.Hunt + 1, Move: was.Move})
	}
}

// TestWholeLinesAreNotMoved holds that lines that a chunk holds whole aren't moved, whatever their length, and however wide the window is.
func TestWholeLinesAreNotMoved(t *testing.T) {
	p := pairOf(free)
	p.feed(t, "a line over two chunks", "0123456789")
	p.feed(t, "a line over two chunks", "abcdefg\n")
	moved := p.q.Counts().Move
	for n := range 200 {
		text := someText(n, n)
		p.feed(t, fmt.Sprint("a line of ", n), text+"\n")
		p.feed(t, fmt.Sprint("lines of ", n), text+"\n\n"+text+"\n")
	}
	if got := p.q.Counts().Move; got != moved {
		t.Errorf("%d were moved", got-moved)
	}
}

// TestRestOfALine holds what is moved of lines over two chunks: each byte once, but where the window is made wider.
func TestRestOfALine(t *testing.T) {
	for first := range 40 {
		for second := range 70 {
			a, b := someText(first, first), someText(second, second)
			check(t, free, []string{a, b + "\n"})
			check(t, free, []string{"x\n" + a, b + "\ny"})
			q := meter.New()
			s := stream.New(q, free)
			s.Feed([]byte(a))
			got := s.Feed([]byte(b + "\n"))
			tells(t, fmt.Sprintf("%d and %d", first, second), got, []stream.Line{{Text: []byte(a + b)}})
			want := first + second
			switch {
			case first == 0:
				want = 0
			case second > 0 && first+second > max(first, 16):
				want += first
			}
			counts(t, fmt.Sprintf("%d and %d", first, second), q, meter.Counts{Hunt: first + second + 1, Move: want})
		}
	}
}

// TestManyLinesOverTwoChunks holds that the window is cleared behind each line: what is moved doesn't grow with what came ahead.
func TestManyLinesOverTwoChunks(t *testing.T) {
	p := pairOf(free)
	for i := range 500 {
		p.feed(t, fmt.Sprint("line ", i), someText(i, 7))
		p.feed(t, fmt.Sprint("line ", i), someText(i+1, 9)+"\n")
	}
	counts(t, "all", p.q, meter.Counts{Hunt: 500 * 17, Move: 500 * 16})
}

// P20.3

func TestEndByHand(t *testing.T) {
	for _, x := range []struct {
		chunks []string
		told   string
	}{
		{nil, ``},
		{[]string{""}, ``},
		{[]string{"a"}, `0 at 0 "a"`},
		{[]string{"a", ""}, `0 at 0 "a"`},
		{[]string{"a", "b"}, `0 at 0 "ab"`},
		{[]string{"a\n"}, ``},
		{[]string{"a", "\n"}, ``},
		{[]string{"a\n", ""}, ``},
		{[]string{"\n"}, ``},
		{[]string{"\n\n"}, ``},
		{[]string{"\n", "a"}, `1 at 1 "a"`},
		{[]string{"ab\nc"}, `1 at 3 "c"`},
		{[]string{"ab\n\n\x00"}, `2 at 4 "\x00"`},
		{[]string{"ab", "c\nde", "f"}, `1 at 4 "def"`},
		{[]string{"0123456789", "\n0123456789abcdef", "g"}, `1 at 11 "0123456789abcdefg"`},
	} {
		q := meter.New()
		s := stream.New(q, free)
		for _, chunk := range x.chunks {
			s.Feed([]byte(chunk))
		}
		was := q.Counts()
		if got := shown(s.End()); got != x.told {
			t.Errorf("the end of %q: told %s, not %s", x.chunks, got, x.told)
		}
		for range 2 {
			tells(t, "ended again", s.End(), nil)
			for _, chunk := range []string{"", "a", "\n", "a\nb\n"} {
				tells(t, "fed behind the end", s.Feed([]byte(chunk)), nil)
			}
			errs(t, "behind the end", s, api.OK, 0)
			counts(t, "behind the end", q, was)
		}
		check(t, free, x.chunks)
	}
}

// TestNoFailBehindTheEnd holds that a line that is too long, behind the end, is no error.
func TestNoFailBehindTheEnd(t *testing.T) {
	for _, chunk := range []string{"", "a", "a\n", "ab"} {
		p := pairOf(2)
		p.feed(t, chunk, chunk)
		p.end(t, chunk)
		p.feed(t, "too long", "abcdef")
		errs(t, "too long", p.s, api.OK, 0)
	}
}

func TestNilStream(t *testing.T) {
	var s *stream.Stream
	for range 2 {
		for _, chunk := range [][]byte{nil, {}, []byte("a"), []byte("a\nb\n"), make([]byte, 1000)} {
			tells(t, "nil", s.Feed(chunk), nil)
			errs(t, "nil", s, api.OK, 0)
		}
		tells(t, "nil", s.End(), nil)
		errs(t, "nil", s, api.OK, 0)
	}
	text := []byte("a\nb")
	s.Feed(text)
	if string(text) != "a\nb" {
		t.Errorf("what is handed in became %q", text)
	}
}

// P20.4

func TestAllShortTextsInAllCuts(t *testing.T) {
	for _, text := range textsOf("a\n", 7) {
		for _, chunks := range cutsOf(text) {
			for _, most := range []int{-1, 0, 1, 2, 3, 6, free} {
				check(t, most, chunks)
			}
		}
	}
}

func TestAllShortTextsOfManyBytes(t *testing.T) {
	for _, text := range textsOf("\x00\n\r\xff", 4) {
		for _, chunks := range cutsOf(text) {
			for _, most := range []int{0, 1, 3, free} {
				check(t, most, chunks)
			}
		}
	}
}

// TestEmptyChunks holds that empty chunks, nil or not, wherever they come, change nothing.
func TestEmptyChunks(t *testing.T) {
	for _, text := range textsOf("a\n", 5) {
		for _, chunks := range cutsOf(text) {
			for _, most := range []int{1, 2, free} {
				without := pairOf(most)
				q := meter.New()
				with := stream.New(q, most)
				for _, chunk := range chunks {
					for _, nothing := range [][]byte{nil, {}, make([]byte, 0, 9), []byte("\n")[:0], []byte("a\n")[2:]} {
						tells(t, "an empty chunk", with.Feed(nothing), nil)
					}
					tells(t, chunk, with.Feed([]byte(chunk)), without.feed(t, chunk, chunk))
					counts(t, chunk, q, without.q.Counts())
				}
				tells(t, "an empty chunk", with.Feed(nil), nil)
				e, n := without.s.Err()
				tells(t, "the end", with.End(), without.end(t, "the end"))
				errs(t, "the end", with, e, n)
				counts(t, "the end", q, without.q.Counts())
			}
		}
	}
}

func TestManyChunks(t *testing.T) {
	for _, x := range []struct{ many, size, often, most int }{
		{300, 1, 2, free},
		{300, 1, 20, free},
		{300, 3, 3, free},
		{300, 20, 5, free},
		{300, 20, 60, free},
		{200, 60, 40, 200},
		{200, 60, 40, 100},
		{100, 400, 100, api.MaxLine},
		{100, 400, 30, api.MaxLine},
		{100, 3000, 500, free},
		{100, 40, 1 << 30, free},
		{100, 40, 1, 0},
		{50, 1000, 1 << 30, 20000},
	} {
		for seed := range uint32(4) {
			check(t, x.most, someChunks(seed, x.many, x.size, x.often))
		}
	}
}

// TestCutsPlayNoPart holds that what is told of all bytes is one, however they are cut.
func TestCutsPlayNoPart(t *testing.T) {
	all := strings.Join(someChunks(5, 40, 60, 30), "")
	for _, most := range []int{0, 20, 60, 100, free} {
		check(t, most, []string{all})
		check(t, most, bytesOf(all))
		for n := 2; n < 70; n++ {
			var chunks []string
			for chunk := range slices.Chunk([]byte(all), n) {
				chunks = append(chunks, string(chunk))
			}
			check(t, most, chunks)
		}
		for i := range len(all) {
			if i%7 == 0 {
				check(t, most, []string{all[:i], all[i:]})
			}
		}
	}
}

// TestMovedAtMost holds what is moved where that is nearly three times as many as came: each room is filled, and one byte more makes a greater one.
func TestMovedAtMost(t *testing.T) {
	q := meter.New()
	s := stream.New(q, free)
	came := 0
	feed := func(n int) {
		s.Feed(make([]byte, n))
		came += n
		if got := q.Counts(); got.Hunt != came || got.Move > 3*came {
			t.Fatalf("counted %v of %d", got, came)
		}
	}
	feed(16)
	for room := 16; room < 1<<18; room *= 2 {
		feed(1)
		feed(room - 1)
	}
	feed(1)
	counts(t, "nearly three times", q, meter.Counts{Hunt: came, Move: came + 1<<19 - 16})
	tells(t, "nearly three times", s.End(), []stream.Line{{Text: make([]byte, came)}})
}

func TestByteByByte(t *testing.T) {
	text := strings.Repeat(someText(9, 399)+"\n", 300)
	check(t, api.MaxLine, bytesOf(text))
	check(t, 398, bytesOf(text))
}

func TestLongTexts(t *testing.T) {
	text := strings.Repeat("seine\x00\xff\n", 1<<15)
	check(t, 7, []string{text, text})
	check(t, 7, []string{text[1:], text[2:], text[3:]})
	check(t, free, []string{strings.Repeat("seine\x00\xff", 1<<15), text})
	q := meter.New()
	s := stream.New(q, 7)
	if got := s.Feed([]byte(text)); len(got) != 1<<15 || got[1<<15-1].Num != 1<<15-1 || got[1<<15-1].Off != 8*(1<<15-1) {
		t.Errorf("%d lines", len(got))
	}
	counts(t, "long", q, meter.Counts{Hunt: len(text)})
}

// DOC.md, rules 3 and 4

// someRuns are chunks that memory is looked at with: lines whole in a chunk, over two, over many, some empty, some not ended.
var someRuns = [][]string{
	{"ab\ncd\n\nef"},
	{"ab", "cd\nef\ngh"},
	{"a", "b", "c", "\n", "d", "\ne"},
	{"0123456789", "abcdefg", "\n01234567", "89abcdefg\nx\ny", "z"},
	{"0123456789abcdef\n0", "\n\n\n", "a\x00\xff\nb"},
	{"", "\n", "", "a", "", "\n", "b"},
}

// lasting are lines, and what they were.
type lasting struct {
	l   []stream.Line
	was string
}

// lastingOf are lines as they are now.
func lastingOf(l []stream.Line) lasting { return lasting{l, shown(l)} }

// last holds lines against what they were.
func last(t *testing.T, name string, all []lasting) {
	t.Helper()
	for _, x := range all {
		if got := shown(x.l); got != x.was {
			t.Fatalf("%s: %s became %s", name, x.was, got)
		}
	}
}

// TestNothingHandedInIsChanged holds that a chunk, and what lies behind it, stays as it is, whatever is done with what was told of it.
func TestNothingHandedInIsChanged(t *testing.T) {
	for _, run := range someRuns {
		for _, most := range []int{1, 4, free} {
			s := stream.New(meter.New(), most)
			var rooms [][]byte
			for _, chunk := range run {
				room, part := roomy(chunk)
				rooms = append(rooms, room)
				for _, l := range s.Feed(part) {
					_ = append(l.Text, "xyz"...)
					spoil(l.Text)
				}
			}
			for _, l := range s.End() {
				spoil(l.Text)
			}
			for i, room := range rooms {
				if string(room) != run[i]+"Tail" {
					t.Fatalf("of %q chunk %d became %q", run, i, room)
				}
			}
		}
	}
}

// TestNothingHandedInIsKept holds that a chunk that is changed after it was handed in changes nothing of what was told, nor of what will be.
func TestNothingHandedInIsKept(t *testing.T) {
	for _, run := range someRuns {
		for _, most := range []int{1, 4, free} {
			p := pairOf(most)
			var all []lasting
			for _, chunk := range run {
				_, part := roomy(chunk)
				got := p.s.Feed(part)
				tells(t, chunk, got, p.m.feed(chunk))
				all = append(all, lastingOf(got))
				spoil(part)
				last(t, "a chunk changed", all)
			}
			all = append(all, lastingOf(p.end(t, "the end, all chunks changed")))
			last(t, "the end", all)
		}
	}
}

func TestOneChunkHandedInAgain(t *testing.T) {
	p := pairOf(free)
	b := make([]byte, 5)
	var all []lasting
	for i := range 40 {
		for j := range b {
			b[j] = byte('a' + (i+j)%20)
		}
		if i%3 == 2 {
			b[i%5] = '\n'
		}
		got := p.s.Feed(b)
		tells(t, fmt.Sprint("step ", i), got, p.m.feed(string(b)))
		all = append(all, lastingOf(got))
		last(t, "one chunk, changed from Feed to Feed", all)
	}
}

// TestLinesStay holds that lines that were told stay as they were, whatever comes later.
func TestLinesStay(t *testing.T) {
	for _, run := range someRuns {
		s := stream.New(nil, 40)
		var all []lasting
		for _, chunk := range append(slices.Clone(run), "\n", "other", "bytes\n", "zzzzzzzzzzzzzzzzzzzzz", "\nend") {
			all = append(all, lastingOf(s.Feed([]byte(chunk))))
			last(t, fmt.Sprintf("behind %q of %q", chunk, run), all)
		}
		all = append(all, lastingOf(s.End()))
		s.Feed([]byte("abc\n"))
		s.End()
		last(t, "behind the end", all)
	}
	// A stream that fails leaves them, too.
	s := stream.New(nil, 4)
	all := []lasting{lastingOf(s.Feed([]byte("abc"))), lastingOf(s.Feed([]byte("d\nef\ngh"))), lastingOf(s.Feed([]byte("i\nxxxxxx")))}
	last(t, "failed", all)
}

// TestLinesAreAlone holds that a line that is changed, or made longer, changes no other one of the same answer, none told ahead of it, and none told later.
func TestLinesAreAlone(t *testing.T) {
	for _, run := range someRuns {
		for _, most := range []int{3, 20, free} {
			p := pairOf(most)
			var all []stream.Line
			for _, chunk := range run {
				all = append(all, p.feed(t, chunk, chunk)...)
				changeOneByOne(t, all)
			}
			all = append(all, p.end(t, "the end")...)
			changeOneByOne(t, all)
		}
	}
}

// changeOneByOne makes lines longer, changes them, and changes them back, one by one, and holds the others.
func changeOneByOne(t *testing.T, l []stream.Line) {
	t.Helper()
	was := shown(l)
	for i, x := range l {
		longer := append(x.Text, "xyz"...)
		if string(longer) != string(x.Text)+"xyz" || shown(l) != was {
			t.Fatalf("line %d of %s made longer: %q, and %s", i, was, longer, shown(l))
		}
		spoil(x.Text)
		others := slices.Delete(slices.Clone(l), i, i+1)
		spoiled := shown(others)
		spoil(x.Text)
		if shown(others) != spoiled || shown(l) != was {
			t.Fatalf("line %d of %s changed: %s, and changed back %s", i, was, spoiled, shown(l))
		}
	}
}

// TestListsAreNewMemory holds that a list that is changed or made longer changes nothing of other answers.
func TestListsAreNewMemory(t *testing.T) {
	for _, run := range someRuns {
		p := pairOf(free)
		for _, chunk := range append(slices.Clone(run), "a\nb\nc\n", "\n\n", "d") {
			l := p.feed(t, chunk, chunk)
			_ = append(l, stream.Line{Num: 77, Off: 78, Text: []byte("other")})
			for i := range l[:cap(l)] {
				l[:cap(l)][i] = stream.Line{Num: 79}
			}
		}
		p.end(t, "the end")
	}
}

// TestLinesHandedInAgain holds that what was told may be handed in, to the stream that told it, too.
func TestLinesHandedInAgain(t *testing.T) {
	p := pairOf(free)
	chunk := "ab\ncd"
	for i := range 8 {
		got := p.feed(t, fmt.Sprint("step ", i), chunk)
		for _, l := range got {
			was := string(l.Text)
			tells(t, fmt.Sprintf("%q handed in again", was), p.s.Feed(l.Text), p.m.feed(was))
			if string(l.Text) != was {
				t.Fatalf("%q handed in again became %q", was, l.Text)
			}
		}
		chunk += "\n" + chunk[:3]
	}
	p.end(t, "the end")
}

func TestStreamsAreAlone(t *testing.T) {
	one, two := pairOf(50), pairOf(20)
	a, b := someChunks(1, 60, 9, 8), someChunks(2, 60, 13, 4)
	for i := range a {
		name := fmt.Sprint("step ", i)
		one.feed(t, name+", the first", a[i])
		two.feed(t, name+", the second", b[i])
	}
	one.end(t, "the end of the first")
	two.feed(t, "the second, behind the end of the first", "abc\n")
	two.feed(t, "the second fails", strings.Repeat("x", 40))
	three := pairOf(20)
	three.feed(t, "a new one", "abc\nd")
	three.end(t, "a new one")
}

func TestSameCallsSameAnswers(t *testing.T) {
	chunks := someChunks(11, 100, 30, 20)
	for range 3 {
		check(t, free, chunks)
	}
	// Neither room behind what is handed in nor where it lies plays a part.
	p := pairOf(free)
	for i, chunk := range chunks {
		_, part := roomy(chunk)
		name := fmt.Sprint("chunk ", i)
		tells(t, name, p.s.Feed(part), p.m.feed(chunk))
		p.holds(t, name)
	}
	p.end(t, "the end")
}

func TestAskingChangesNothing(t *testing.T) {
	p := pairOf(6)
	for _, chunk := range []string{"ab", "c\nd", "efghi", "", "\nabc", "defg", "\n"} {
		p.feed(t, chunk, chunk)
		for range 3 {
			p.holds(t, chunk+", asked again")
		}
	}
	p.end(t, "the end")
}
