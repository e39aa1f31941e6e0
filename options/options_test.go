package options_test

import (
	"fmt"
	"regexp"
	"slices"
	"strings"
	"testing"

	"seine/api"
	"seine/options"
)

// seven are the letters, in their order.
const seven = "iwxobvc"

// asked are which options are asked for, in the order of their letters.
func asked(o options.Options) [7]bool {
	return [7]bool{o.I, o.W, o.X, o.O, o.B, o.V, o.C}
}

// asking are the options that are asked for.
func asking(a [7]bool) options.Options {
	return options.Options{I: a[0], W: a[1], X: a[2], O: a[3], B: a[4], V: a[5], C: a[6]}
}

// every are all options, each once.
func every() []options.Options {
	var all []options.Options
	for n := range 128 {
		var a [7]bool
		for i := range a {
			a[i] = n/(1<<i)%2 == 1
		}
		all = append(all, asking(a))
	}
	return all
}

// lettersOf are the letters of those that are asked for.
func lettersOf(o options.Options) string {
	s := ""
	for i, is := range asked(o) {
		if is {
			s += seven[i : i+1]
		}
	}
	return s
}

// optionsOf are those of some letters.
func optionsOf(s string) options.Options {
	var a [7]bool
	for i := range a {
		a[i] = strings.Contains(s, seven[i:i+1])
	}
	return asking(a)
}

// read is P21.1, byte by byte: what stands between blanks is gone through with how many bytes of its word are ahead.
func read(s string) (options.Options, api.Errno) {
	var a [7]bool
	ahead := 0
	for i := range len(s) {
		c := s[i]
		if c == 32 {
			if ahead == 1 {
				return options.Options{}, api.BadOptions
			}
			ahead = 0
			continue
		}
		at := strings.IndexByte(seven, c)
		if ahead == 0 && c != 45 || ahead > 0 && at < 0 {
			return options.Options{}, api.BadOptions
		}
		if ahead > 0 {
			a[at] = true
		}
		ahead++
	}
	if ahead == 1 {
		return options.Options{}, api.BadOptions
	}
	return asking(a), api.OK
}

// form is what the words of P21.1 allow.
var form = regexp.MustCompile(`^ *(-[iwxobvc]+( +|$))*$`)

// checkRead holds Read against the words, told in two ways.
func checkRead(t *testing.T, s string) {
	t.Helper()
	got, err := options.Read(s)
	want, wantErr := read(s)
	if got != want || err != wantErr {
		t.Fatalf("Read(%.80q) is %q, %d, not %q, %d", s, lettersOf(got), err, lettersOf(want), wantErr)
	}
	if form.MatchString(s) != (err == api.OK) {
		t.Fatalf("Read(%.80q) tells %d", s, err)
	}
	if err == api.OK && got != optionsOf(s) {
		t.Fatalf("Read(%.80q) is %q: those are other letters", s, lettersOf(got))
	}
}

// checkBad tells whether a text is refused, and whether there are no options beside it.
func checkBad(t *testing.T, s string) {
	t.Helper()
	if o, err := options.Read(s); err != api.BadOptions || o != (options.Options{}) {
		t.Errorf("Read(%.80q) is %q, %d, not refused", s, lettersOf(o), err)
	}
	checkRead(t, s)
}

// textsOf are all texts of at most most of some parts.
func textsOf(parts []string, most int) []string {
	all := []string{""}
	longest := all
	for range most {
		var longer []string
		for _, s := range longest {
			for _, p := range parts {
				longer = append(longer, s+p)
			}
		}
		all = append(all, longer...)
		longest = longer
	}
	return all
}

// ordersOf are all orders of some bytes.
func ordersOf(s string) []string {
	if s == "" {
		return []string{""}
	}
	var all []string
	for i := range len(s) {
		for _, rest := range ordersOf(s[:i] + s[i+1:]) {
			all = append(all, s[i:i+1]+rest)
		}
	}
	return all
}

// P21.1

func TestReadByHand(t *testing.T) {
	const blanks = "                                "
	for _, x := range []struct{ text, want string }{
		// The chapter's example.
		{"-iw -x", "iwx"},
		// No words: no options, and no error.
		{"", ""},
		{" ", ""},
		{"  ", ""},
		{blanks, ""},
		// One word.
		{"-i", "i"},
		{"-c", "c"},
		{"-ob", "ob"},
		{"-bo", "ob"},
		{"-iwxobvc", "iwxobvc"},
		{"-cvboxwi", "iwxobvc"},
		{"-xcivobw", "iwxobvc"},
		// Many words.
		{"-i -w", "iw"},
		{"-w -i", "iw"},
		{"-i -w -x -o -b -v -c", "iwxobvc"},
		{"-c -v -b -o -x -w -i", "iwxobvc"},
		{"-iw -xo -bvc", "iwxobvc"},
		// Blanks first, last, and many in a row.
		{" -i", "i"},
		{"-i ", "i"},
		{" -i ", "i"},
		{"   -i   ", "i"},
		{"-i  -w", "iw"},
		{"-i   -w    -x", "iwx"},
		{"  -i  -w  ", "iw"},
		{blanks + "-v" + blanks + "-c" + blanks, "vc"},
		// A letter that comes again, in one word and in another.
		{"-ii", "i"},
		{"-iii", "i"},
		{"-iwi", "iw"},
		{"-i -i", "i"},
		{"-i -i -i", "i"},
		{"-iw -wi", "iw"},
		{"-cc -c -ccc", "c"},
		{"-iwxobvciwxobvc -iwxobvc", "iwxobvc"},
		// Options that don't go together are read, too.
		{"-ov", "ov"},
		{"-o -c", "oc"},
		{"-bc", "bc"},
	} {
		o, err := options.Read(x.text)
		if o != optionsOf(x.want) || err != api.OK {
			t.Errorf("Read(%q) is %q, %d, not %q", x.text, lettersOf(o), err, x.want)
		}
		checkRead(t, x.text)
	}
}

func TestReadTellsEachField(t *testing.T) {
	for text, want := range map[string]options.Options{
		"":         {},
		"-i":       {I: true},
		"-w":       {W: true},
		"-x":       {X: true},
		"-o":       {O: true},
		"-b":       {B: true},
		"-v":       {V: true},
		"-c":       {C: true},
		"-iwx":     {I: true, W: true, X: true},
		"-o -b":    {O: true, B: true},
		"-vc":      {V: true, C: true},
		"-iwxobvc": {I: true, W: true, X: true, O: true, B: true, V: true, C: true},
	} {
		if got, err := options.Read(text); got != want || err != api.OK {
			t.Errorf("Read(%q) is %v, %d, not %v", text, got, err, want)
		}
	}
}

func TestReadRefusesByHand(t *testing.T) {
	for _, s := range []string{
		// The word - alone, first, last, and between others.
		"-", "- -i", "-i -", "-i - -w", " -", "- ", " - ", "- -", "-  i", "- i", "-i  -  -w",
		// Words without -.
		"i", "iwx", "w -i", "-i w", "-i w -x", " i", "i ", "0", "b",
		// - within a word, twice at its front, and at its end.
		"-i-w", "-i-", "-iw-", "--", "--i", "---", "-i --w", "--i -w", "-i -w-", "-i-w -x", "i-", "i-w", "-i --",
		// A letter that is none of the seven: first, last, in the middle of a word; in the first, the last, a middle word.
		"-z", "-zi", "-iz", "-izw", "-i -z", "-z -i", "-i -z -w", "-i -wz", "-zi -w", "-iz -w", "-i -wzx -o", "-iwxobvcz",
		"-a", "-d", "-j", "-h", "-n", "-p", "-u", "-y",
		// Capitals and digits.
		"-I", "-W", "-X", "-O", "-B", "-V", "-C", "-iW", "-Iw", "-IWXOBVC", "-i -W", "-1", "-0", "-i1", "-1i", "-i -1",
		// Bytes that are no blanks, though they look like some.
		"\n", "-i\n", "\n-i", "-i\n-w", "-i \n", "-i\t-w", "\t", "\t-i", "-i\t", "-i\x0b-w", "-i\x0c-w", "-i\r-w", "-i\r\n",
		"-i\x00", "\x00-i", "-\x00i", "-i\x00-w", "\x00", "-i -w\x00", "-i\xa0-w", "\xa0", "\xa0-i", "-i\xa0", "-i\x85-w", "-i\x1f-w", "-i!-w",
		// Other lines and minuses.
		"+i", "_i", "/i", "=i", "~i", "\u2010i", "\u2011i", "\u2212i", "\u2013i", "\u00adi", "\ufe63i", "\uff0di", "-\u00adi",
	} {
		checkBad(t, s)
	}
}

// TestReadRefusesLettersOfMoreBytes has those that are blanks elsewhere, those that look like a right one, and those whose number is that of a right byte, but for higher digits.
func TestReadRefusesLettersOfMoreBytes(t *testing.T) {
	letters := []rune("éßıİſıｉｗｘｏｂｖｃіхосѵ\u212a\u00a0\u0085\u1680\u2000\u2003\u2028\u2029\u202f\u205f\u3000\u200b\ufeff\ufffd\U0010ffff")
	for _, c := range "-" + " " + seven {
		for _, above := range []rune{1 << 8, 1 << 9, 1 << 12, 1 << 16, 1 << 20} {
			letters = append(letters, above+c)
		}
	}
	for _, c := range letters {
		s := string(c)
		for _, text := range []string{s, s + "i", "-" + s, "-" + s + "i", "-i" + s, "-i" + s + "w", "-i" + s + "-w", "-i -w" + s, "-i " + s + " -w", "-i " + s, s + " -i"} {
			checkBad(t, text)
		}
	}
}

// TestReadRefusesBytesThatAreNoText has bytes that are no UTF-8: the front of a letter, its rest alone, letters that are too long, too great, or half of a pair.
func TestReadRefusesBytesThatAreNoText(t *testing.T) {
	for _, s := range []string{
		"\x80", "\xbf", "\xc0", "\xc1", "\xc2", "\xe0", "\xf0", "\xf5", "\xfe", "\xff", "\xc3", "\xe2\x82", "\xf0\x9f\x98",
		"\xc1\xa9", "\xc0\xad", "\xc0\xa0", "\xe0\x81\xa9", "\xf0\x80\x81\xa9", "\xed\xa0\x80", "\xf4\x90\x80\x80", "\xff\xff",
	} {
		for _, text := range []string{s, s + "-i", "-" + s, "-" + s + "i", "-i" + s, "-i" + s + "w", "-i" + s + " ", "-i" + s + " -w", "-i -w" + s, "-i " + s + "-w", "-i " + s, s + " -i", " " + s + " "} {
			checkBad(t, text)
		}
	}
}

func TestReadOfPairsOfLetters(t *testing.T) {
	for _, a := range seven {
		for _, b := range seven {
			want := optionsOf(string([]rune{a, b}))
			for _, text := range []string{
				fmt.Sprintf("-%c%c", a, b), fmt.Sprintf("-%c -%c", a, b), fmt.Sprintf("  -%c   -%c ", a, b), fmt.Sprintf("-%c%c -%c", a, b, a),
			} {
				if got, err := options.Read(text); got != want || err != api.OK {
					t.Errorf("Read(%q) is %q, %d", text, lettersOf(got), err)
				}
				checkRead(t, text)
			}
			checkBad(t, fmt.Sprintf("-%c%c -", a, b))
			checkBad(t, fmt.Sprintf("-%c-%c", a, b))
			checkBad(t, fmt.Sprintf("-%c %c", a, b))
			checkBad(t, fmt.Sprintf("%c -%c", a, b))
		}
	}
}

// TestReadOfAllOrders has all letters in each of their orders, in one word, in two, and in seven.
func TestReadOfAllOrders(t *testing.T) {
	all := optionsOf(seven)
	for i, s := range ordersOf(seven) {
		cut := 1 + i%6
		for _, text := range []string{"-" + s, "-" + s[:cut] + " -" + s[cut:], "-" + strings.Join(strings.Split(s, ""), " -")} {
			if got, err := options.Read(text); got != all || err != api.OK {
				t.Fatalf("Read(%q) is %q, %d", text, lettersOf(got), err)
			}
		}
	}
}

// TestReadOfAllOptions has the letters of all options, in one word and in one each.
func TestReadOfAllOptions(t *testing.T) {
	for _, o := range every() {
		one, each := "", ""
		for _, c := range lettersOf(o) {
			one = "-" + strings.TrimPrefix(one, "-") + string(c)
			each += " -" + string(c)
		}
		for _, text := range []string{one, each} {
			if got, err := options.Read(text); got != o || err != api.OK {
				t.Errorf("Read(%q) is %q, %d", text, lettersOf(got), err)
			}
			checkRead(t, text)
		}
	}
}

// TestReadOfEachByte has each of the 256 bytes at each place of a right text, put there and put in its place.
func TestReadOfEachByte(t *testing.T) {
	for _, text := range []string{"", "-i", "-iw -x", " -o  -bv ", "- -i"} {
		for c := range 256 {
			b := string([]byte{byte(c)})
			for at := range len(text) + 1 {
				checkRead(t, text[:at]+b+text[at:])
				if at < len(text) {
					checkRead(t, text[:at]+b+text[at+1:])
				}
			}
		}
	}
}

func TestReadOfAllShortTexts(t *testing.T) {
	for _, x := range []struct {
		bytes string
		most  int
	}{
		{" -ic", 8},
		{" -iwz\t", 6},
		{" -xobv", 6},
		{" -i\x00\n\x0b\r\xa0", 5},
		{" -i\xff\xc3\xa9\xc2", 5},
		{" -wW-0", 5},
	} {
		for _, s := range textsOf(strings.Split(x.bytes, ""), x.most) {
			checkRead(t, s)
		}
	}
}

func TestReadOfAllTextsOfTwoBytes(t *testing.T) {
	for one := range 256 {
		for two := range 256 {
			checkRead(t, string([]byte{byte(one), byte(two)}))
			checkRead(t, string([]byte{'-', byte(one), byte(two)}))
		}
	}
}

// TestReadOfWords has all rows of some words, right and wrong ones: none behind a wrong one mends it, none ahead is told.
func TestReadOfWords(t *testing.T) {
	right := []string{"-i ", " -xw", "-cc", " "}
	wrong := []string{"-", "i", "--o", "-b-", "-é", "-\xff", "-I", "\t"}
	var parts []string
	for _, w := range slices.Concat(right, wrong) {
		parts = append(parts, w+" ")
	}
	for _, s := range textsOf(parts, 3) {
		checkRead(t, s)
	}
	for _, w := range wrong {
		for n := range 20 {
			checkBad(t, strings.Repeat("-iwxobvc ", n)+w)
			checkBad(t, w+strings.Repeat(" -iwxobvc", n))
			checkBad(t, strings.Repeat("-iwxobvc ", n)+w+strings.Repeat(" -iwxobvc", n))
		}
	}
}

func TestReadOfLongTexts(t *testing.T) {
	const n = 1 << 16
	for _, s := range []string{
		strings.Repeat(" ", n),
		"-" + strings.Repeat("w", n),
		strings.Repeat("-b ", n),
		strings.Repeat(" ", n) + "-x" + strings.Repeat(" ", n),
		strings.Repeat("-iwx  -obv ", n) + "-c",
	} {
		checkRead(t, s)
		if _, err := options.Read(s); err != api.OK {
			t.Errorf("Read(%.80q) tells %d", s, err)
		}
		for _, bad := range []string{" -", " i", "-", "\x00", "é", "\xff"} {
			checkBad(t, s+bad+" ")
			checkBad(t, bad+"-"+s)
		}
	}
}

// someText is a text of bytes that options are made of, as a fixed rule that doesn't soon come round says; from time to time there is another byte.
func someText(seed uint32, n int) string {
	b := make([]byte, n)
	for i := range b {
		seed = seed*1664525 + 1013904223
		k := seed >> 8
		b[i] = "  -iwxobvciwxobvc"[k%17]
		if i == 0 || b[i-1] == ' ' {
			b[i] = " --------"[k/17%9]
		}
		if k%1009 == 0 {
			b[i] = byte(k >> 10)
		}
	}
	return string(b)
}

func TestReadByRule(t *testing.T) {
	right := 0
	for seed := range uint32(20000) {
		s := someText(seed, int(seed%60))
		checkRead(t, s)
		if _, err := options.Read(s); err == api.OK {
			right++
		}
	}
	if right < 2000 || right > 18000 {
		t.Errorf("%d of the 20000 texts are right: the rule is no good one", right)
	}
}

// P21.2

func TestCheckByHand(t *testing.T) {
	for letters, want := range map[string]api.Errno{
		"": api.OK, "i": api.OK, "w": api.OK, "x": api.OK, "o": api.OK, "b": api.OK, "v": api.OK, "c": api.OK,
		// The three pairs that don't go together, and with others.
		"ov": api.BadOptions, "oc": api.BadOptions, "bc": api.BadOptions,
		"obv": api.BadOptions, "obc": api.BadOptions, "ovc": api.BadOptions, "bvc": api.BadOptions, "obvc": api.BadOptions,
		"iwxov": api.BadOptions, "iwxoc": api.BadOptions, "iwxbc": api.BadOptions, "iwxobvc": api.BadOptions,
		// Those that do.
		"ob": api.OK, "bv": api.OK, "vc": api.OK, "wx": api.OK, "io": api.OK, "ic": api.OK,
		"iwxob": api.OK, "iwxbv": api.OK, "iwxvc": api.OK,
	} {
		if got := options.Check(optionsOf(letters)); got != want {
			t.Errorf("Check of %q is %d, not %d", letters, got, want)
		}
	}
}

func TestCheckOfAllOptions(t *testing.T) {
	bad := 0
	for _, o := range every() {
		want := api.OK
		for _, pair := range []string{"ov", "oc", "bc"} {
			if has := lettersOf(o); strings.Contains(has, pair[:1]) && strings.Contains(has, pair[1:]) {
				want = api.BadOptions
			}
		}
		if got := options.Check(o); got != want {
			t.Errorf("Check of %q is %d, not %d", lettersOf(o), got, want)
		}
		if want == api.BadOptions {
			bad++
		}
	}
	// Of the sixteen of o, b, v and c, eight don't go together.
	if bad != 64 {
		t.Errorf("%d are refused", bad)
	}
}

// P21.3

func TestShowByHand(t *testing.T) {
	for letters, want := range map[string]string{
		"": "", "i": "-i", "w": "-w", "x": "-x", "o": "-o", "b": "-b", "v": "-v", "c": "-c",
		// The chapter's example.
		"ob": "-ob", "bo": "-ob",
		"ic": "-ic", "ci": "-ic", "wv": "-wv", "xoi": "-ixo", "iwxobvc": "-iwxobvc", "iwxobv": "-iwxobv", "wxobvc": "-wxobvc",
	} {
		if got := options.Show(optionsOf(letters)); got != want {
			t.Errorf("Show of %q is %q, not %q", letters, got, want)
		}
	}
	if got := options.Show(options.Options{O: true, B: true}); got != "-ob" {
		t.Errorf("Show of O and B is %q", got)
	}
}

func TestShowOfAllOptions(t *testing.T) {
	seen := map[string]bool{}
	for _, o := range every() {
		want := ""
		if has := lettersOf(o); has != "" {
			want = "-" + has
		}
		got := options.Show(o)
		if got != want || seen[got] {
			t.Errorf("Show of %q is %q, not %q", lettersOf(o), got, want)
		}
		seen[got] = true
	}
}

func TestBitsByHand(t *testing.T) {
	for letters, want := range map[string]uint8{
		"": 0, "i": 1, "w": 2, "x": 4, "o": 8, "b": 16, "v": 32, "c": 64,
		"iw": 3, "ob": 24, "oc": 72, "ic": 65, "vc": 96, "iwxobv": 63, "wxobvc": 126, "iwxobvc": 127,
	} {
		if got := options.Bits(optionsOf(letters)); got != want {
			t.Errorf("Bits of %q is %d, not %d", letters, got, want)
		}
	}
}

// bits is P21.3, by a sum.
func bits(o options.Options) int {
	n := 0
	for i, number := range []int{1, 2, 4, 8, 16, 32, 64} {
		if asked(o)[i] {
			n += number
		}
	}
	return n
}

func TestBitsOfAllOptions(t *testing.T) {
	for i, o := range every() {
		if got := options.Bits(o); int(got) != bits(o) || int(got) != i {
			t.Errorf("Bits of %q is %d, not %d", lettersOf(o), got, bits(o))
		}
	}
}

func TestOfByHand(t *testing.T) {
	for n, want := range map[uint8]string{
		0: "", 1: "i", 2: "w", 4: "x", 8: "o", 16: "b", 32: "v", 64: "c",
		3: "iw", 24: "ob", 72: "oc", 65: "ic", 96: "vc", 63: "iwxobv", 126: "wxobvc", 127: "iwxobvc",
		// Of 128 and above it is less 128.
		128: "", 129: "i", 192: "c", 200: "oc", 254: "wxobvc", 255: "iwxobvc",
	} {
		if got := options.Of(n); got != optionsOf(want) {
			t.Errorf("Of(%d) is %q, not %q", n, lettersOf(got), want)
		}
	}
}

func TestOfAllNumbers(t *testing.T) {
	for n := range 256 {
		got := options.Of(uint8(n))
		if bits(got) != n%128 {
			t.Errorf("Of(%d) is %q", n, lettersOf(got))
		}
		if got != every()[n%128] {
			t.Errorf("Of(%d) is %q, not %q", n, lettersOf(got), lettersOf(every()[n%128]))
		}
	}
}

// P21.4

func TestWhatIsShownIsReadAsItWas(t *testing.T) {
	for _, o := range every() {
		if got, err := options.Read(options.Show(o)); got != o || err != api.OK {
			t.Errorf("%q is shown as %q, and read as %q, %d", lettersOf(o), options.Show(o), lettersOf(got), err)
		}
	}
}

func TestOfBitsIsAsItWas(t *testing.T) {
	for _, o := range every() {
		if got := options.Of(options.Bits(o)); got != o {
			t.Errorf("%q is %d, and that is %q", lettersOf(o), options.Bits(o), lettersOf(got))
		}
	}
	for n := range 256 {
		if got := options.Bits(options.Of(uint8(n))); int(got) != n%128 {
			t.Errorf("Bits of Of(%d) is %d", n, got)
		}
	}
}

// TestWhatIsReadIsShownInOrder has texts of other orders, that are shown as one word, and read again.
func TestWhatIsReadIsShownInOrder(t *testing.T) {
	for _, s := range textsOf([]string{"-i ", " -cw", "-vx -x", "-bob", " "}, 4) {
		o, err := options.Read(s)
		if want, wantErr := read(s); o != want || err != wantErr {
			t.Fatalf("Read(%q) is %q, %d", s, lettersOf(o), err)
		}
		if again, err := options.Read(options.Show(o)); again != o || err != api.OK {
			t.Fatalf("Read(%q) is %q, which is read as %q, %d", s, options.Show(o), lettersOf(again), err)
		}
	}
}

// DOC.md, rules 3 and 4

// TestSameCallsSameAnswers goes on to other calls between two that are the same, a refused one among them.
func TestSameCallsSameAnswers(t *testing.T) {
	texts := []string{"", "-i", "-iw -x", "-", "-iz", " -vc ", "-\xff"}
	for _, text := range texts {
		want, wantErr := options.Read(text)
		for n, o := range every() {
			options.Read(options.Show(o))
			options.Read(texts[n%len(texts)])
			options.Check(options.Of(uint8(n)))
			got, err := options.Read(string([]byte(text)))
			if got != want || err != wantErr {
				t.Fatalf("Read(%q) is %q, %d, and then %q, %d", text, lettersOf(want), wantErr, lettersOf(got), err)
			}
		}
	}
	for _, o := range every() {
		show, bits, check := options.Show(o), options.Bits(o), options.Check(o)
		for _, other := range every() {
			options.Show(other)
			options.Bits(other)
		}
		if options.Show(o) != show || options.Bits(o) != bits || options.Check(o) != check {
			t.Fatalf("of %q there are two answers", lettersOf(o))
		}
	}
}
