package text

import (
	"math"
	"math/rand"
	"slices"
	"strings"
	"testing"
	"unicode/utf8"
)

// piece is a rune of a text, or a wrong byte (that tells U+FFFD), and its bytes.
type piece struct {
	r     rune
	bytes string
	wrong bool
}

// decode is the first piece of s by the document's words: shortest forms, no surrogates, nothing
// above U+10FFFF, and byte by byte where that isn't so.
func decode(s string) piece {
	wrong := piece{0xFFFD, s[:1], true}
	c := s[0]
	size, least := 1, rune(0)
	var r rune
	switch {
	case c < 0x80:
		return piece{rune(c), s[:1], false}
	case c>>5 == 0b110:
		size, least, r = 2, 0x80, rune(c&0x1F)
	case c>>4 == 0b1110:
		size, least, r = 3, 0x800, rune(c&0x0F)
	case c>>3 == 0b11110:
		size, least, r = 4, 0x10000, rune(c&0x07)
	default:
		return wrong
	}
	if len(s) < size {
		return wrong
	}
	for _, c := range []byte(s[1:size]) {
		if c>>6 != 0b10 {
			return wrong
		}
		r = r<<6 | rune(c&0x3F)
	}
	if r < least || r > 0x10FFFF || r >= 0xD800 && r <= 0xDFFF {
		return wrong
	}
	return piece{r, s[:size], false}
}

// pieces has all of them.
func pieces(s string) []piece {
	var l []piece
	for s != "" {
		p := decode(s)
		l = append(l, p)
		s = s[len(p.bytes):]
	}
	return l
}

// The calls, by the document's words and decode.

func wantRight(s string) bool {
	return !slices.ContainsFunc(pieces(s), func(p piece) bool { return p.wrong })
}

func wantCut(s string, n int) string {
	out := ""
	for _, p := range pieces(s) {
		if len(out)+len(p.bytes) > n {
			break
		}
		out += p.bytes
	}
	return out
}

func wantPlain(r rune) bool {
	return r >= 0x20 && !(r >= 0x7F && r <= 0x9F) && r != 0x2028 && r != 0x2029 && r != 0xFFFD
}

func wantClean(s string) string {
	var out strings.Builder
	for _, p := range pieces(s) {
		if !p.wrong && wantPlain(p.r) {
			out.WriteString(p.bytes)
		} else {
			out.WriteString("_")
		}
	}
	return out.String()
}

func wantKey(s string) bool {
	const firsts = "abcdefghijklmnopqrstuvwxyzABCDEFGHIJKLMNOPQRSTUVWXYZ_"
	if len(s) < 1 || len(s) > 64 || strings.IndexByte(firsts, s[0]) < 0 {
		return false
	}
	for _, c := range []byte(s[1:]) {
		if strings.IndexByte(firsts+"0123456789.", c) < 0 {
			return false
		}
	}
	return true
}

// wrongs has bytes that are no runes, by their reasons; all of their bytes are wrong ones.
func wrongs() map[string][]string {
	return map[string][]string{
		"begins no rune":   {"\x80", "\xbf", "\xc0", "\xc1", "\xf5", "\xf8", "\xfc", "\xfe", "\xff", "\x80\x80", "\xff\xfe"},
		"cut off":          {"\xc2", "\xc3", "\xdf", "\xe0", "\xe0\xa0", "\xe2\x82", "\xef", "\xef\xbf", "\xf0", "\xf0\x90", "\xf0\x90\x80", "\xf0\x9f\x98", "\xf4\x8f\xbf"},
		"a longer form":    {"\xc0\x80", "\xc0\xaf", "\xc1\x81", "\xc1\xbf", "\xe0\x80\x80", "\xe0\x80\xaf", "\xe0\x9f\xbf", "\xf0\x80\x80\x80", "\xf0\x82\x82\xac", "\xf0\x8f\xbf\xbd", "\xf0\x8f\xbf\xbf", "\xf8\x88\x80\x80\x80", "\xfc\x84\x80\x80\x80\x80"},
		"a surrogate":      {"\xed\xa0\x80", "\xed\xad\xbf", "\xed\xae\x80", "\xed\xaf\xbf", "\xed\xb0\x80", "\xed\xbe\x80", "\xed\xbf\xbf", "\xed\xa0\xbd\xed\xb8\x80"},
		"above U+10FFFF":   {"\xf4\x90\x80\x80", "\xf4\xbf\xbf\xbf", "\xf5\x80\x80\x80", "\xf7\xbf\xbf\xbf", "\xfb\xbf\xbf\xbf\xbf"},
		"spoilt on the go": {"\xc3\xc3", "\xe2\xe2\x82", "\xf0\x9f\xf0\x9f\x98", "\xef\xbf\xef\xbf"},
	}
}

// edges has the first and last rune of each length, those beside the surrogates, and those at
// which what is plain begins or ends.
func edges() []rune {
	return []rune{
		0, 1, '\t', '\n', '\r', 0x1F, ' ', '!', '0', 'a', 'z', '_', '~', 0x7F,
		0x80, 0x81, 0x85, 0x9F, 0xA0, 0xA1, 0xE9, 0x7FF,
		0x800, 0x2027, 0x2028, 0x2029, 0x202A, 0x20AC, 0xD7FF, 0xE000, 0xFEFF, 0xFFFC, 0xFFFD, 0xFFFE, 0xFFFF,
		0x10000, 0x1F600, 0x12028, 0x10FFFD, 0x10FFFE, 0x10FFFF,
	}
}

// samples has texts: none, each edge, each wrong piece, alone and amid right ones, and noise.
func samples() []string {
	l := []string{"", "a", "abc", "http.status_code", "aé€\U0001F600", "aé\xff\xe2\x82€", "x\u0085\x85\u2029\tß", "\uFFFD", "\uFFFD\uFFFD"}
	for _, r := range edges() {
		l = append(l, string(r), string(r)+string(r), "a"+string(r)+"é", "€"+string(r))
	}
	for _, ws := range wrongs() {
		for _, w := range ws {
			l = append(l, w, "a"+w, w+"a", "a"+w+"é", "é"+w+"€", "€"+w+"\U0001F600", w+"\uFFFD", "\uFFFD"+w, "\uFFFD"+w+"\uFFFD", w+"z"+w)
		}
	}
	slices.Sort(l)
	for seed := range int64(400) {
		l = append(l, noise(seed))
	}
	return append(l, strings.Repeat("é", 5000), strings.Repeat("\xff", 5000), strings.Repeat("a€\xe2", 5000))
}

// noise is a text of pieces that are right or wrong, the same one for each seed.
func noise(seed int64) string {
	r := rand.New(rand.NewSource(seed))
	var out strings.Builder
	for range r.Intn(12) {
		switch r.Intn(4) {
		case 0:
			out.WriteByte(byte(r.Intn(256)))
		case 1:
			out.WriteRune(edges()[r.Intn(len(edges()))])
		case 2:
			out.WriteRune(rune(r.Intn(0x110000)))
		case 3:
			s := string(rune(r.Intn(0x110000)))
			out.WriteString(s[:r.Intn(len(s)+1)])
		}
	}
	return out.String()
}

// lengths has places to cut s at: all of a short one's, and those at and beyond its ends.
func lengths(s string) []int {
	l := []int{math.MinInt, math.MinInt32, -2, -1, len(s) - 1, len(s), len(s) + 1, len(s) + 4, math.MaxInt32, math.MaxInt}
	for n := range min(len(s), 40) {
		l = append(l, n)
	}
	return l
}

// The reference itself is held against the library.
func TestReferenceIsUTF8(t *testing.T) {
	for _, s := range samples() {
		if wantRight(s) != utf8.ValidString(s) || len(pieces(s)) != utf8.RuneCountInString(s) {
			t.Fatalf("decode(%q): %v", s, pieces(s))
		}
	}
}

func TestP3_1RightKnown(t *testing.T) {
	for _, s := range []string{"", "a", "abc", "\x00", "\x7f", "é", "€", "\U0001F600", "é€\U0001F600", "\uFFFD", "a\uFFFDb", "\uFFFD\uFFFD", "\U0010FFFF"} {
		if !Right(s) {
			t.Errorf("Right(%q) is false", s)
		}
	}
	for _, r := range edges() {
		if !Right(string(r)) {
			t.Errorf("Right of rune %U is false", r)
		}
	}
}

func TestP3_1RightWrongBytes(t *testing.T) {
	for why, ws := range wrongs() {
		for _, w := range ws {
			for _, s := range []string{w, "a" + w, w + "a", "é" + w + "€", "\U0001F600" + w, "\uFFFD" + w, w + "\uFFFD", "\uFFFD" + w + "\uFFFD"} {
				if Right(s) {
					t.Errorf("Right(%q) (%s) is true", s, why)
				}
			}
		}
	}
}

// Each text of one and two bytes, and each rune that is one.
func TestP3_1RightAll(t *testing.T) {
	for c := range 256 {
		if s := string([]byte{byte(c)}); Right(s) != (c < 0x80) {
			t.Errorf("Right(%q)", s)
		}
		for d := range 256 {
			if s := string([]byte{byte(c), byte(d)}); Right(s) != wantRight(s) {
				t.Errorf("Right(%q)", s)
			}
		}
	}
	for r := range rune(0x110000) {
		if s := string(r); !Right(s) || Count(s) != 1 {
			t.Errorf("Right, Count of rune %U: %v, %d", r, Right(s), Count(s))
		}
	}
}

// What begins like U+FFFD written out, but isn't it, is wrong.
func TestP3_1RightReplacementSpoilt(t *testing.T) {
	for c := range 256 {
		for _, s := range []string{"\xef" + string([]byte{byte(c)}) + "\xbd", "\xef\xbf" + string([]byte{byte(c)}), string([]byte{byte(c)}) + "\xbf\xbd"} {
			if Right(s) != wantRight(s) || Right(s+"\uFFFD") != wantRight(s) {
				t.Errorf("Right(%q)", s)
			}
		}
	}
}

func TestP3_1CountKnown(t *testing.T) {
	for _, x := range []struct {
		s    string
		want int
	}{
		{"", 0},
		{"a", 1},
		{"abc", 3},
		{"é", 1},
		{"€", 1},
		{"\U0001F600", 1},
		{"aé€\U0001F600", 4},
		{"\uFFFD", 1},
		{"\xff", 1},
		{"\xef\xbf", 2},
		{"\xe2\x82", 2},
		{"\xed\xa0\x80", 3},
		{"\xf4\x90\x80\x80", 4},
		{"\xc0\x80", 2},
		{"a\u0301", 2},
		{"aé\xff\xe2\x82€", 6},
	} {
		if got := Count(x.s); got != x.want {
			t.Errorf("Count(%q): %d, want %d", x.s, got, x.want)
		}
	}
}

func TestP3_1CountWrongBytesOneEach(t *testing.T) {
	for why, ws := range wrongs() {
		for _, w := range ws {
			if got := Count(w); got != len(w) {
				t.Errorf("Count(%q) (%s): %d, want %d", w, why, got, len(w))
			}
			if got := Count("é" + w + "€"); got != len(w)+2 {
				t.Errorf("Count(%q) amid others (%s): %d, want %d", w, why, got, len(w)+2)
			}
		}
	}
}

func TestP3_1CutKnown(t *testing.T) {
	for _, x := range []struct {
		s    string
		n    int
		want string
	}{
		{"", -1, ""}, {"", 0, ""}, {"", 1, ""},
		{"a", -1, ""}, {"a", 0, ""}, {"a", 1, "a"}, {"a", 2, "a"},
		{"é", 1, ""}, {"é", 2, "é"}, {"é", 3, "é"},
		{"€", 1, ""}, {"€", 2, ""}, {"€", 3, "€"},
		{"\U0001F600", 1, ""}, {"\U0001F600", 3, ""}, {"\U0001F600", 4, "\U0001F600"},
		{"\uFFFD", 1, ""}, {"\uFFFD", 2, ""}, {"\uFFFD", 3, "\uFFFD"},
		{"aé€", 0, ""}, {"aé€", 1, "a"}, {"aé€", 2, "a"}, {"aé€", 3, "aé"}, {"aé€", 4, "aé"}, {"aé€", 5, "aé"}, {"aé€", 6, "aé€"},
		{"aé€", math.MaxInt, "aé€"}, {"aé€", math.MinInt, ""},
		{"\xff\xfe", 1, "\xff"}, {"\xff\xfe", 2, "\xff\xfe"},
		{"\xe2\x82", 1, "\xe2"}, {"\xe2\x82a", 2, "\xe2\x82"},
		{"\xed\xa0\x80", 2, "\xed\xa0"}, {"\xf4\x90\x80\x80", 3, "\xf4\x90\x80"},
		{"é\xe2€", 3, "é\xe2"}, {"é\xe2€", 5, "é\xe2"}, {"é\xe2€", 6, "é\xe2€"},
	} {
		if got := Cut(x.s, x.n); got != x.want {
			t.Errorf("Cut(%q, %d): %q, want %q", x.s, x.n, got, x.want)
		}
	}
}

func TestP3_2CleanKnown(t *testing.T) {
	for _, x := range []struct{ s, want string }{
		{"", ""},
		{"abc", "abc"},
		{"a\xffé\n", "a_é_"},
		{"a b", "a b"},
		{"a\x00b", "a_b"},
		{"\x1f\x20\x7e\x7f", "_\x20\x7e_"},
		{"\u0080\u009f\u00a0", "__\u00a0"},
		{"\u2027\u2028\u2029\u202a", "\u2027__\u202a"},
		{"\uFFFC\uFFFD\uFFFE", "\uFFFC_\uFFFE"},
		{"\x80\x85\x9f", "___"},
		{"\xed\xa0\x80", "___"},
		{"\xe2\x82", "__"},
		{"\xef\xbf", "__"},
		{"\xf4\x90\x80\x80", "____"},
		{"\xc0\xaf", "__"},
		{"\r\n", "__"},
		{"x\u0085\x85\u2029\tß", "x____ß"},
		{"\U0001F600\xf0\x9f\x98", "\U0001F600___"},
	} {
		if got := Clean(x.s); got != x.want {
			t.Errorf("Clean(%q): %q, want %q", x.s, got, x.want)
		}
	}
}

// Each rune there is, alone: it stays, or it is one _.
func TestP3_2CleanAllRunes(t *testing.T) {
	for r := range rune(0x110000) {
		if r >= 0xD800 && r <= 0xDFFF {
			continue
		}
		want := string(r)
		if !wantPlain(r) {
			want = "_"
		}
		if got := Clean(string(r)); got != want {
			t.Errorf("Clean of %U: %q, want %q", r, got, want)
		}
	}
}

func TestP3_2CleanWrongBytesOneEach(t *testing.T) {
	for why, ws := range wrongs() {
		for _, w := range ws {
			if got, want := Clean("a"+w+"é"), "a"+strings.Repeat("_", len(w))+"é"; got != want {
				t.Errorf("Clean(%q) amid others (%s): %q, want %q", w, why, got, want)
			}
		}
	}
}

func TestP3_2LabelKnown(t *testing.T) {
	for _, x := range []struct {
		s    string
		n    int
		want string
	}{
		{"", 5, ""},
		{"abc", -1, ""},
		{"abc", 0, ""},
		{"abc", 2, "ab"},
		{"abc", 9, "abc"},
		{"ab\x00é", 3, "ab_"},
		{"ab\x00é", 4, "ab_"},
		{"ab\x00é", 5, "ab_é"},
		// The cut is of what is clean: of a rune that isn't plain one byte is left, so more fits in.
		{"\u2028a", 1, "_"},
		{"\u2028a", 2, "_a"},
		{"\uFFFD\uFFFDé", 4, "__é"},
		{"\u0085\u0085", 1, "_"},
		// Bytes cut off by the cut alone are no wrong bytes.
		{"a€", 3, "a"},
		{"a\xe2\x82", 2, "a_"},
		{"a\xe2\x82", 3, "a__"},
	} {
		if got := Label(x.s, x.n); got != x.want {
			t.Errorf("Label(%q, %d): %q, want %q", x.s, x.n, got, x.want)
		}
	}
}

// All calls on all samples, by the document's words.
func TestP3_1P3_2AllSamples(t *testing.T) {
	for _, s := range samples() {
		if got := Right(s); got != wantRight(s) {
			t.Errorf("P3.1: Right(%q): %v", s, got)
		}
		if got := Count(s); got != len(pieces(s)) {
			t.Errorf("P3.1: Count(%q): %d, want %d", s, got, len(pieces(s)))
		}
		clean := wantClean(s)
		if got := Clean(s); got != clean {
			t.Errorf("P3.2: Clean(%q): %q, want %q", s, got, clean)
		}
		for _, n := range lengths(s) {
			if got, want := Cut(s, n), wantCut(s, n); got != want {
				t.Errorf("P3.1: Cut(%q, %d): %q, want %q", s, n, got, want)
			}
			if got, want := Label(s, n), wantCut(clean, n); got != want {
				t.Errorf("P3.2: Label(%q, %d): %q, want %q", s, n, got, want)
			}
		}
	}
}

func TestP3_3KeyKnown(t *testing.T) {
	for _, s := range []string{"a", "z", "A", "Z", "_", "__", "a.b", "a.", "a..b", "a0", "a9", "_0", "_.", "http.status_code", "HTTP.Status9", "Z_z.0", strings.Repeat("k", 63), strings.Repeat("k", 64), "_" + strings.Repeat(".", 63)} {
		if !Key(s) {
			t.Errorf("Key(%q) is false", s)
		}
	}
	for _, s := range []string{"", ".", ".a", "0", "9a", "0a", " ", " a", "a ", "a b", "a-b", "a/b", "a:b", "a@b", "a[b", "a`b", "a{b", "a\x00", "\x00a", "a\n", "é", "aé", "ab\xff", "\xffa", "a\uFFFD", "ａ", "aａ", "a\u0660", strings.Repeat("k", 65), strings.Repeat("k", 1000), strings.Repeat("k", 63) + "é", strings.Repeat("k", 63) + "-", strings.Repeat("é", 32)} {
		if Key(s) {
			t.Errorf("Key(%q) is true", s)
		}
	}
}

// Each byte and each rune, as the first one, the second one and the 64th.
func TestP3_3KeyAllRunes(t *testing.T) {
	amid := strings.Repeat("k", 63)
	for c := range 256 {
		b := string([]byte{byte(c)})
		for _, s := range []string{b, b + "a", "a" + b, "a" + b + "a", "_" + b, amid + b, amid + "k" + b} {
			if got := Key(s); got != wantKey(s) {
				t.Errorf("Key(%q): %v", s, got)
			}
		}
	}
	for r := range rune(0x110000) {
		if r < 0x80 {
			continue
		}
		if Key(string(r)) || Key("a"+string(r)) {
			t.Errorf("Key with rune %U is true", r)
		}
	}
}

func TestP3_3KeyLengths(t *testing.T) {
	for n := range 200 {
		for _, c := range []string{"k", "Q", "_"} {
			s := strings.Repeat(c, n)
			if got := Key(s); got != (n >= 1 && n <= 64) {
				t.Errorf("Key of %d bytes %s: %v", n, c, got)
			}
		}
	}
}

func TestP3_3KeySamples(t *testing.T) {
	for _, s := range samples() {
		for _, s := range []string{s, "a" + s, s + "a"} {
			if got := Key(s); got != wantKey(s) {
				t.Errorf("Key(%q): %v", s, got)
			}
		}
	}
}

// follows asks what P3.4 says of s.
func follows(t *testing.T, s string, n int) {
	t.Helper()
	clean := Clean(s)
	if !Right(clean) || !utf8.ValidString(clean) {
		t.Errorf("P3.4: Clean(%q) is %q: not right", s, clean)
	}
	if again := Clean(clean); again != clean {
		t.Errorf("P3.4: Clean of %q: %q", clean, again)
	}
	cut := Cut(s, n)
	if !strings.HasPrefix(s, cut) || len(cut) > max(n, 0) {
		t.Errorf("P3.4: Cut(%q, %d) is %q: no beginning, or too long", s, n, cut)
	}
	if Right(s) && !Right(cut) {
		t.Errorf("P3.4: Cut(%q, %d) is %q: not right, though the text is", s, n, cut)
	}
	label := Label(s, n)
	if !strings.HasPrefix(clean, label) || !Right(label) || Clean(label) != label {
		t.Errorf("P3.4: Label(%q, %d) is %q", s, n, label)
	}
}

func TestP3_4Follows(t *testing.T) {
	for _, s := range samples() {
		for _, n := range lengths(s) {
			follows(t, s, n)
		}
	}
}

// A text without what isn't plain is clean already.
func TestP3_4CleanStays(t *testing.T) {
	for _, s := range []string{"", "_", "a b", "é€\U0001F600", "\u00a0\u2027\u202a\uFFFC\uFFFE\U0010FFFF"} {
		if got := Clean(s); got != s {
			t.Errorf("P3.4: Clean(%q): %q", s, got)
		}
	}
}

// R6: a call answers the same whatever was called between.
func TestR6NothingIsKept(t *testing.T) {
	const s = "aé\xff€\n"
	for _, other := range samples() {
		Right(other)
		Count(other)
		Clean(other)
		Key(other)
		Label(other, 3)
		if Right(s) || Count(s) != 5 || Cut(s, 5) != "aé\xff" || Clean(s) != "aé_€_" || Label(s, 6) != "aé_" || Key(s) {
			t.Fatalf("R6: behind %q the answers are others", other)
		}
	}
}

func FuzzText(f *testing.F) {
	f.Add("aé\xff\xe2\x82€", 5)
	f.Add("\xef\xbf\uFFFD", 2)
	f.Add("http.status_code", 64)
	f.Fuzz(func(t *testing.T, s string, n int) {
		follows(t, s, n)
		if Right(s) != wantRight(s) || Count(s) != len(pieces(s)) || Key(s) != wantKey(s) {
			t.Errorf("Right, Count, Key(%q): %v, %d, %v", s, Right(s), Count(s), Key(s))
		}
		if Clean(s) != wantClean(s) || Cut(s, n) != wantCut(s, n) || Label(s, n) != wantCut(wantClean(s), n) {
			t.Errorf("Clean, Cut, Label(%q, %d): %q, %q, %q", s, n, Clean(s), Cut(s, n), Label(s, n))
		}
	})
}
