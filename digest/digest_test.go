package digest

import (
	"encoding/binary"
	"hash/fnv"
	"math"
	"math/big"
	"math/rand"
	"reflect"
	"slices"
	"strconv"
	"strings"
	"testing"

	"tallyroom/api"
)

// noise has n bytes that are the same at each run.
func noise(n int, seed int64) []byte {
	b := make([]byte, n)
	rand.New(rand.NewSource(seed)).Read(b)
	return b
}

// bodies has bytes of each kind: none, one, several, all alike, and many.
func bodies() map[string][]byte {
	out := map[string][]byte{
		"nil":           nil,
		"none":          {},
		"one":           []byte("a"),
		"a zero":        {0},
		"255":           {255},
		"several":       []byte("foobar"),
		"turned about":  []byte("raboof"),
		"zeros":         make([]byte, 8),
		"many zeros":    make([]byte, 1000),
		"255s":          slices.Repeat([]byte{255}, 8),
		"many 255s":     slices.Repeat([]byte{255}, 1000),
		"0 and 255":     {0, 255, 0, 255},
		"255 and 0":     {255, 0, 255, 0},
		"a zero ahead":  {0, 'a'},
		"a zero behind": {'a', 0},
		"a zero amid":   {'a', 0, 'b'},
		"runes":         []byte("é€\U0001F600"),
		"wrong runes":   []byte("\xff\xc3\xe2\x82"),
	}
	for _, n := range []int{2, 3, 7, 8, 9, 63, 64, 65, 4096, 65537} {
		out["noise of "+strconv.Itoa(n)] = noise(n, int64(n))
	}
	return out
}

// textLists has lists of no text, of one, of several, of empty ones, and of texts with bytes of 0.
func textLists() map[string][]string {
	out := map[string][]string{
		"nil":             nil,
		"none":            {},
		"an empty one":    {""},
		"two empty ones":  {"", ""},
		"many empty ones": make([]string, 100),
		"one":             {"a"},
		"several":         {"web", "get", "/a"},
		"turned about":    {"/a", "get", "web"},
		"ab, c":           {"ab", "c"},
		"a, bc":           {"a", "bc"},
		"abc":             {"abc"},
		"the same, twice": {"a", "a"},
		"empty ahead":     {"", "a"},
		"empty behind":    {"a", ""},
		"empty amid":      {"a", "", "b"},
		"a zero":          {"\x00"},
		"zeros":           {"\x00", "\x00\x00", "\x00"},
		"a zero amid":     {"a\x00b"},
		"a zero behind":   {"a\x00", "b"},
		"a zero ahead":    {"a", "\x00b"},
		"255s":            {"\xff", "\xff\xff"},
		"runes":           {"é", "€\U0001F600"},
		"wrong runes":     {"\xc3", "\xa9", "\uFFFD", "\xe2\x82"},
		"a long one":      {strings.Repeat("x", 70000), "y"},
	}
	r := rand.New(rand.NewSource(1))
	for i := range 50 {
		var l []string
		for range r.Intn(8) {
			l = append(l, string(noise(r.Intn(9), r.Int63())))
		}
		out["noise "+strconv.Itoa(i)] = l
	}
	return out
}

// traces has numbers at their ends, with each bit alone and with all but it, and ordinary ones.
func traces() []uint64 {
	l := []uint64{0, 1, 2, 7, 11, 255, 256, 257, 1000, 1 << 32, math.MaxUint64, math.MaxUint64 - 1, 0x0102030405060708, 0x0807060504030201}
	for i := range 64 {
		l = append(l, 1<<i, ^uint64(1<<i), 1<<i-1)
	}
	r := rand.New(rand.NewSource(2))
	for range 200 {
		l = append(l, r.Uint64())
	}
	for i := range 200 {
		l = append(l, uint64(i))
	}
	return l
}

// counts has numbers of parts, all from 1 to 64 and more.
func counts() []int {
	l := []int{65, 100, 127, 128, 255, 256, 257, 1000, 1 << 16, math.MaxInt32 - 1, math.MaxInt32, 1 << 32, 1<<32 + 1, 1 << 62, math.MaxInt - 1, math.MaxInt}
	for n := range 64 {
		l = append(l, n+1)
	}
	return l
}

// ofs has shares of 1000: below it, all of it, and above.
func ofs() []int {
	l := []int{math.MinInt, math.MinInt + 1, math.MinInt32, -1001, -1000, -3, -1, 1001, 1002, 2000, math.MaxInt32, 1 << 32, math.MaxInt - 1, math.MaxInt}
	for n := range 1001 {
		l = append(l, n)
	}
	slices.Sort(l)
	return l
}

// The calls, by the document's words.

// wantHash reckons in numbers that don't go round, and takes what is left of 2^64.
func wantHash(b []byte) uint64 {
	h, _ := new(big.Int).SetString("14695981039346656037", 10)
	by := big.NewInt(1099511628211)
	round := new(big.Int).Lsh(big.NewInt(1), 64)
	for _, c := range b {
		h.Xor(h, big.NewInt(int64(c)))
		h.Mul(h, by)
		h.Mod(h, round)
	}
	return h.Uint64()
}

// library is the hash that the library has by these words.
func library(b []byte) uint64 {
	h := fnv.New64a()
	h.Write(b)
	return h.Sum64()
}

// ended has the texts' bytes, a 0 behind each.
func ended(l []string) []byte {
	var b []byte
	for _, s := range l {
		b = append(append(b, s...), 0)
	}
	return b
}

// wantOfTrace has the lowest byte first.
func wantOfTrace(trace uint64) uint64 {
	return library(binary.LittleEndian.AppendUint64(nil, trace))
}

func wantPart(trace uint64, n int) int {
	if n <= 0 {
		return 0
	}
	left := new(big.Int).SetUint64(wantOfTrace(trace))
	return int(left.Mod(left, big.NewInt(int64(n))).Int64())
}

func wantShare(trace uint64, of1000 int) bool {
	return int64(wantOfTrace(trace)%1000) < int64(of1000)
}

// The example.
func TestP9_1HashOfNothing(t *testing.T) {
	full := []byte("abc")
	for why, b := range map[string][]byte{"nil": nil, "empty": {}, "empty, with room": full[:0], "empty, at the end": full[3:]} {
		if h := Hash(b); h != 14695981039346656037 {
			t.Errorf("P9.1: Hash of nothing (%s): %d", why, h)
		}
	}
}

func TestP9_1HashKnown(t *testing.T) {
	for s, want := range map[string]uint64{
		"":                 0xcbf29ce484222325,
		"\x00":             0xaf63bd4c8601b7df,
		"a":                0xaf63dc4c8601ec8c,
		"b":                0xaf63df4c8601f1a5,
		"\xff":             0xaf64724c8602eb6e,
		"ab":               0x089c4407b545986a,
		"foobar":           0x85944171f73967e8,
		"\x00\x00\x00\x00": 0x4d25767f9dce13f5,
	} {
		if h := Hash([]byte(s)); h != want {
			t.Errorf("P9.1: Hash of %q: %x, want %x", s, h, want)
		}
	}
}

func TestP9_1HashByWords(t *testing.T) {
	for why, b := range bodies() {
		if h, want := Hash(b), wantHash(b); h != want {
			t.Errorf("P9.1: Hash (%s): %x, want %x", why, h, want)
		}
		if h, want := Hash(b), library(b); h != want {
			t.Errorf("P9.1: Hash (%s): %x, the library has %x", why, h, want)
		}
	}
}

// Each byte counts, wherever it stands, those of 0 too.
func TestP9_1HashOfFewBytes(t *testing.T) {
	seen := map[uint64]string{}
	ask := func(b []byte) {
		h := Hash(b)
		if want := library(b); h != want {
			t.Errorf("P9.1: Hash of %x: %x, want %x", b, h, want)
		}
		if other, there := seen[h]; there {
			t.Errorf("P9.1: Hash of %x is that of %x", b, other)
		}
		seen[h] = string(b)
	}
	ask(nil)
	for c := range 256 {
		ask([]byte{byte(c)})
		for d := range 256 {
			ask([]byte{byte(c), byte(d)})
		}
	}
	for n := range 100 {
		ask(make([]byte, n+3))
	}
}

// Bytes ahead of what is handed in, and behind it, don't count.
func TestP9_1HashOfAPiece(t *testing.T) {
	b := noise(40, 3)
	for i := range len(b) + 1 {
		for j := range i + 1 {
			if h, want := Hash(b[j:i]), library(slices.Clone(b[j:i])); h != want {
				t.Errorf("P9.1: Hash of bytes %d to %d: %x, want %x", j, i, h, want)
			}
		}
	}
}

func TestP9_1TextKnown(t *testing.T) {
	for _, x := range []struct {
		l    []string
		want uint64
	}{
		{nil, 14695981039346656037},
		{[]string{}, 14695981039346656037},
		{[]string{""}, 0xaf63bd4c8601b7df},
		{[]string{"", "", "", ""}, 0x4d25767f9dce13f5},
	} {
		if h := Text(x.l); h != x.want {
			t.Errorf("P9.1: Text of %q: %x, want %x", x.l, h, x.want)
		}
	}
}

func TestP9_1TextByWords(t *testing.T) {
	for why, l := range textLists() {
		b := ended(l)
		if h, want := Text(l), wantHash(b); h != want {
			t.Errorf("P9.1: Text (%s): %x, want %x", why, h, want)
		}
		if h, want := Text(l), Hash(b); h != want {
			t.Errorf("P9.1: Text (%s): %x, Hash of its bytes is %x", why, h, want)
		}
	}
}

// parted has all ways to part s into texts that aren't empty.
func parted(s string) [][]string {
	var out [][]string
	for cuts := range 1 << (len(s) - 1) {
		var l []string
		at := 0
		for i := 1; i < len(s); i++ {
			if cuts>>(i-1)&1 == 1 {
				l, at = append(l, s[at:i]), i
			}
		}
		out = append(out, append(l, s[at:]))
	}
	return out
}

func TestP9_1TextWhereATextEndsCounts(t *testing.T) {
	seen := map[uint64][]string{}
	ask := func(l []string) {
		h := Text(l)
		if other, there := seen[h]; there {
			t.Errorf("P9.1: Text of %q is that of %q", l, other)
		}
		seen[h] = l
	}
	for _, l := range parted("abcdefgh") {
		ask(l)
		ask(append([]string{""}, l...))
		ask(append(slices.Clone(l), ""))
	}
	for n := range 20 {
		ask(make([]string, n))
	}
}

// A byte of 0 in a text is as good as its end: the words ask for nothing else.
func TestP9_1TextWithZeros(t *testing.T) {
	for _, x := range [][2][]string{
		{{"a\x00b"}, {"a", "b"}},
		{{"\x00"}, {"", ""}},
		{{"a\x00"}, {"a", ""}},
		{{"\x00a"}, {"", "a"}},
		{{"\x00\x00", ""}, {"", "", "", ""}},
	} {
		if g, h := Text(x[0]), Text(x[1]); g != h {
			t.Errorf("P9.1: Text of %q: %x, of %q: %x", x[0], g, x[1], h)
		}
	}
	if Text([]string{"a\x00", "b"}) == Text([]string{"a", "b"}) {
		t.Error("P9.1: Text passes over a byte of 0")
	}
}

func TestP9_1PartOfNone(t *testing.T) {
	for _, trace := range traces() {
		for _, n := range []int{0, -1, -2, -3, -64, -65, math.MinInt32, math.MinInt + 1, math.MinInt} {
			if p := Part(trace, n); p != 0 {
				t.Errorf("P9.1: Part of %d, %d: %d", trace, n, p)
			}
		}
	}
}

func TestP9_1PartKnown(t *testing.T) {
	for _, x := range []struct {
		trace uint64
		hash  uint64
	}{
		{0, 0xa8c7f832281a39c5},
		{1, 0x89cd31291d2aefa4},
		{1 << 56, 0xa8c7f732281a3812},
		{math.MaxUint64, 0x8cf51a8bfca3883d},
	} {
		for _, n := range counts() {
			if p, want := Part(x.trace, n), x.hash%uint64(n); p < 0 || uint64(p) != want {
				t.Errorf("P9.1: Part of %d, %d: %d, want %d", x.trace, n, p, want)
			}
		}
	}
}

func TestP9_1PartByWords(t *testing.T) {
	for _, trace := range traces() {
		for _, n := range counts() {
			p, want := Part(trace, n), wantPart(trace, n)
			if p != want {
				t.Errorf("P9.1: Part of %d, %d: %d, want %d", trace, n, p, want)
			}
			if p < 0 || p >= n {
				t.Errorf("P9.1: Part of %d, %d: %d is none", trace, n, p)
			}
		}
	}
}

// Each part has some of many traces, in a row or not.
func TestP9_1PartsAreAll(t *testing.T) {
	for n := 1; n <= 64; n++ {
		row, noisy := make([]int, n), make([]int, n)
		r := rand.New(rand.NewSource(4))
		for i := range 200 * n {
			row[Part(uint64(i), n)]++
			noisy[Part(r.Uint64(), n)]++
		}
		if m := slices.Min(row); m < 50 {
			t.Errorf("P9.1: a part of %d has %d of %d traces in a row", n, m, 200*n)
		}
		if m := slices.Min(noisy); m < 50 {
			t.Errorf("P9.1: a part of %d has %d of %d traces", n, m, 200*n)
		}
	}
}

func TestP9_1ShareOfNoneAndAll(t *testing.T) {
	for _, trace := range traces() {
		for _, of := range ofs() {
			got := Share(trace, of)
			if of <= 0 && got {
				t.Errorf("P9.1: Share of %d, %d: true", trace, of)
			}
			if of >= 1000 && !got {
				t.Errorf("P9.1: Share of %d, %d: false", trace, of)
			}
		}
	}
}

func TestP9_1ShareByWords(t *testing.T) {
	for _, trace := range traces() {
		for _, of := range ofs() {
			if got, want := Share(trace, of), wantShare(trace, of); got != want {
				t.Errorf("P9.1: Share of %d, %d: %v, want %v", trace, of, got, want)
			}
		}
		// Just at its own number it is none of them, just above it is one.
		own := int(wantOfTrace(trace) % 1000)
		if Share(trace, own) || !Share(trace, own+1) {
			t.Errorf("P9.1: Share of %d at %d: %v, and at one more %v", trace, own, Share(trace, own), Share(trace, own+1))
		}
	}
}

// Of many traces a share has about as many as it says.
func TestP9_1ShareOfMany(t *testing.T) {
	for _, of := range []int{1, 10, 100, 250, 500, 900, 999} {
		n := 0
		for i := range 20000 {
			if Share(uint64(i), of) {
				n++
			}
		}
		if d := n - 20*of; d < -300 || d > 300 {
			t.Errorf("P9.1: Share of %d: %d of 20000", of, n)
		}
	}
}

func TestP9_3AGreaterShareHasAllOfASmallerOne(t *testing.T) {
	for _, trace := range traces() {
		had := false
		for _, of := range ofs() {
			has := Share(trace, of)
			if had && !has {
				t.Errorf("P9.3: Share of %d, %d: false, though a smaller one has it", trace, of)
			}
			had = has
		}
	}
}

// Attributes by short names, for tables.

func num(key string, n int64) api.Attr { return api.Attr{Key: key, V: api.Value{Kind: 1, N: n}} }

func tru(key string, n int64) api.Attr { return api.Attr{Key: key, V: api.Value{Kind: 2, N: n}} }

func txt(key, s string) api.Attr { return api.Attr{Key: key, V: api.Value{Kind: 3, S: s}} }

// good is a span that may be, with other numbers in each field.
func good() api.Span {
	return api.Span{
		Trace: 11, ID: 22, Parent: 33, Service: "web", Name: "get", Kind: 1, Status: 1, Start: 44, End: 55,
		Attrs: []api.Attr{num("b", 5), txt("m", "v"), tru("z", 0)},
	}
}

// turn changes a span.
type turn func(s *api.Span)

// turned is a span of its own, changed in turn.
func turned(s api.Span, turns ...turn) api.Span {
	s.Attrs = slices.Clone(s.Attrs)
	for _, f := range turns {
		f(&s)
	}
	return s
}

// with is a turn that lays these attributes.
func with(l ...api.Attr) turn { return func(s *api.Span) { s.Attrs = l } }

// behind is a turn that lays more attributes behind those that are there.
func behind(l ...api.Attr) turn { return func(s *api.Span) { s.Attrs = append(s.Attrs, l...) } }

// step is what makes a good span less or greater in one thing alone.
type step struct {
	why  string
	less bool
	f    turn
}

// fields has, for each thing by which spans are compared, in order, steps of just that.
func fields() [][]step {
	return [][]step{
		{
			{"Trace 0", true, func(s *api.Span) { s.Trace = 0 }},
			{"Trace 10", true, func(s *api.Span) { s.Trace = 10 }},
			{"Trace 12", false, func(s *api.Span) { s.Trace = 12 }},
			{"Trace at its end", false, func(s *api.Span) { s.Trace = math.MaxUint64 }},
		},
		{
			{"ID 0", true, func(s *api.Span) { s.ID = 0 }},
			{"ID 23", false, func(s *api.Span) { s.ID = 23 }},
			{"ID at its end", false, func(s *api.Span) { s.ID = math.MaxUint64 }},
		},
		{
			{"Parent 0", true, func(s *api.Span) { s.Parent = 0 }},
			{"Parent 34", false, func(s *api.Span) { s.Parent = 34 }},
			{"Parent at its end", false, func(s *api.Span) { s.Parent = math.MaxUint64 }},
		},
		{
			{"no Service", true, func(s *api.Span) { s.Service = "" }},
			{"a shorter Service", true, func(s *api.Span) { s.Service = "we" }},
			{"a Service with a great letter", true, func(s *api.Span) { s.Service = "weB" }},
			{"a longer Service", false, func(s *api.Span) { s.Service = "web\x00" }},
			{"a Service of wrong runes", false, func(s *api.Span) { s.Service = "\xff" }},
		},
		{
			{"no Name", true, func(s *api.Span) { s.Name = "" }},
			{"a shorter Name", true, func(s *api.Span) { s.Name = "ge" }},
			{"a longer Name", false, func(s *api.Span) { s.Name = "get/" }},
			{"a Name of wrong runes", false, func(s *api.Span) { s.Name = "\xff" }},
		},
		{
			{"Kind 0", true, func(s *api.Span) { s.Kind = 0 }},
			{"Kind -1", true, func(s *api.Span) { s.Kind = -1 }},
			{"Kind, the least", true, func(s *api.Span) { s.Kind = math.MinInt }},
			{"Kind 2", false, func(s *api.Span) { s.Kind = 2 }},
			{"Kind, the greatest", false, func(s *api.Span) { s.Kind = math.MaxInt }},
		},
		{
			{"Status 0", true, func(s *api.Span) { s.Status = 0 }},
			{"Status, the least", true, func(s *api.Span) { s.Status = math.MinInt }},
			{"Status 2", false, func(s *api.Span) { s.Status = 2 }},
			{"Status, the greatest", false, func(s *api.Span) { s.Status = math.MaxInt }},
		},
		{
			{"Start 0", true, func(s *api.Span) { s.Start = 0 }},
			{"Start 45", false, func(s *api.Span) { s.Start = 45 }},
			{"Start at its end", false, func(s *api.Span) { s.Start = math.MaxUint64 }},
		},
		{
			{"End 54", true, func(s *api.Span) { s.End = 54 }},
			{"End 56", false, func(s *api.Span) { s.End = 56 }},
			{"End at its end", false, func(s *api.Span) { s.End = math.MaxUint64 }},
		},
		{
			{"no attribute, nil", true, with()},
			{"no attribute, not nil", true, func(s *api.Span) { s.Attrs = []api.Attr{} }},
			{"one attribute less", true, func(s *api.Span) { s.Attrs = s.Attrs[:2] }},
			{"one attribute more", false, behind(num("zz", 0))},
			{"an empty attribute more", false, behind(api.Attr{})},
			{"attributes turned about", false, func(s *api.Span) { slices.Reverse(s.Attrs) }},
			{"one attribute alone, less", true, with(num("a", 9))},
			{"one attribute alone, greater", false, with(num("c", 0))},
			{"a lesser Key", true, func(s *api.Span) { s.Attrs[0].Key = "a" }},
			{"a greater Key", false, func(s *api.Span) { s.Attrs[2].Key = "z." }},
			{"a lesser number", true, func(s *api.Span) { s.Attrs[0].V.N = math.MinInt64 }},
			{"a greater number", false, func(s *api.Span) { s.Attrs[0].V.N = math.MaxInt64 }},
			{"a lesser text", true, func(s *api.Span) { s.Attrs[1].V.S = "" }},
			{"a greater text", false, func(s *api.Span) { s.Attrs[1].V.S = "w" }},
			{"true for false", false, func(s *api.Span) { s.Attrs[2].V.N = 1 }},
			{"a lesser kind of value", true, func(s *api.Span) { s.Attrs[1] = tru("m", 1) }},
			{"a greater kind of value", false, func(s *api.Span) { s.Attrs[0] = txt("b", "") }},
			{"a kind of value that is none", false, func(s *api.Span) { s.Attrs[2].V.Kind = 9 }},
			{"a text beside a number", false, func(s *api.Span) { s.Attrs[0].V.S = "a" }},
		},
	}
}

// all has good spans, and such as may not be.
func all() map[string]api.Span {
	out := map[string]api.Span{
		"good":       good(),
		"zero":       {},
		"zero, none": {Attrs: []api.Attr{}},
		"at the ends": {
			Trace: math.MaxUint64, ID: math.MaxUint64, Parent: math.MaxUint64, Service: "\xff", Name: strings.Repeat("\x00", 5000),
			Kind: math.MinInt, Status: math.MaxInt, Start: math.MaxUint64, End: math.MaxUint64,
			Attrs: []api.Attr{{Key: "\xff", V: api.Value{Kind: -9, N: math.MinInt64, S: "\x00"}}, {}, {}},
		},
		"many attributes": turned(good(), with(slices.Repeat([]api.Attr{num("a", 1)}, 100)...)),
	}
	for _, l := range fields() {
		for _, x := range l {
			out[x.why] = turned(good(), x.f)
		}
	}
	for i := range 60 {
		out["noise "+strconv.Itoa(i)] = noisy(int64(i))
	}
	return out
}

// noisy is a span of few sorts of parts, the same one for each seed, so that parts of two of them
// are often the same.
func noisy(seed int64) api.Span {
	r := rand.New(rand.NewSource(seed))
	texts := []string{"", "a", "a", "b", "ab", "\xff"}
	s := api.Span{
		Trace: uint64(r.Intn(2)), ID: uint64(r.Intn(2)), Parent: uint64(r.Intn(2)),
		Service: texts[r.Intn(len(texts))], Name: texts[r.Intn(len(texts))],
		Kind: r.Intn(3) - 1, Status: r.Intn(3) - 1,
		Start: uint64(r.Intn(2)), End: uint64(r.Intn(2)),
	}
	for range r.Intn(5) {
		v := api.Value{Kind: r.Intn(4), N: int64(r.Intn(3) - 1), S: texts[r.Intn(3)]}
		s.Attrs = append(s.Attrs, api.Attr{Key: texts[r.Intn(len(texts))], V: v})
	}
	return s
}

// same: are they, field by field? (Lists without items may be nil or empty.)
func same(a, b api.Span) bool {
	l, m := a.Attrs, b.Attrs
	a.Attrs, b.Attrs = nil, nil
	return reflect.DeepEqual(a, b) && slices.Equal(l, m)
}

// part compares two of one type.
func part(a, b any) int {
	switch a := a.(type) {
	case uint64:
		return order(a < b.(uint64), a == b.(uint64))
	case int64:
		return order(a < b.(int64), a == b.(int64))
	case int:
		return order(a < b.(int), a == b.(int))
	}
	return order(a.(string) < b.(string), a.(string) == b.(string))
}

func order(less, same bool) int {
	switch {
	case less:
		return -1
	case same:
		return 0
	}
	return 1
}

// parts has what spans are compared by, in order; a list that ends is less than one that goes on.
func parts(s api.Span) []any {
	l := []any{s.Trace, s.ID, s.Parent, s.Service, s.Name, s.Kind, s.Status, s.Start, s.End}
	for _, a := range s.Attrs {
		l = append(l, a.Key, a.V.Kind, a.V.N, a.V.S)
	}
	return l
}

func wantCompare(a, b api.Span) int {
	l, m := parts(a), parts(b)
	for i := range min(len(l), len(m)) {
		if c := part(l[i], m[i]); c != 0 {
			return c
		}
	}
	return part(len(l), len(m))
}

// prefers asks that Prefer tells want of both, whichever is first, and leaves both.
func prefers(t *testing.T, why string, a, b, want api.Span) {
	t.Helper()
	keepA, keepB := turned(a), turned(b)
	if got := Prefer(a, b); !same(got, want) {
		t.Errorf("P9.2: Prefer (%s): %.300v, want %.300v", why, got, want)
	}
	if got := Prefer(b, a); !same(got, want) {
		t.Errorf("P9.2: Prefer (%s, the other one first): %.300v, want %.300v", why, got, want)
	}
	if !same(a, keepA) || !same(b, keepB) {
		t.Errorf("R4: Prefer (%s) changed what was handed in", why)
	}
}

// Alike in all but one thing.
func TestP9_2PreferTheLesser(t *testing.T) {
	for _, l := range fields() {
		for _, x := range l {
			other, want := turned(good(), x.f), good()
			if x.less {
				want = turned(good(), x.f)
			}
			prefers(t, x.why, good(), other, want)
		}
	}
}

// What is ahead in the order counts more than all behind it.
func TestP9_2PreferByTheFirstThing(t *testing.T) {
	all := fields()
	for i := range all {
		for j := range i {
			for _, ahead := range all[j] {
				for _, later := range all[i] {
					a, b := turned(good(), ahead.f), turned(good(), later.f)
					want := b
					if ahead.less {
						want = a
					}
					prefers(t, ahead.why+", and "+later.why, a, b, turned(want))
				}
			}
		}
	}
}

func TestP9_2PreferOfTheSame(t *testing.T) {
	for why, s := range all() {
		prefers(t, why+", twice", s, turned(s), turned(s))
		prefers(t, why+", itself", s, s, turned(s))
	}
	none := turned(good(), func(s *api.Span) { s.Attrs = []api.Attr{} })
	prefers(t, "attributes nil and empty", turned(good(), with()), none, none)
}

func TestP9_2PreferOfAll(t *testing.T) {
	spans := all()
	for why, a := range spans {
		for why2, b := range spans {
			want := a
			if wantCompare(b, a) < 0 {
				want = b
			}
			prefers(t, why+", "+why2, a, b, turned(want))
		}
	}
}

// orders has all orders in which n can stand.
func orders(n int) [][]int {
	if n == 0 {
		return [][]int{nil}
	}
	var out [][]int
	for _, l := range orders(n - 1) {
		for i := range n {
			out = append(out, slices.Insert(slices.Clone(l), i, n-1))
		}
	}
	return out
}

func TestP9_3TheSameInWhateverOrder(t *testing.T) {
	all := orders(5)
	if len(all) != 120 {
		t.Fatalf("%d orders of 5", len(all))
	}
	for seed := range 40 {
		var l []api.Span
		for i := range 5 {
			l = append(l, noisy(int64(5*seed+i)))
		}
		// Often alike but for their attributes, as spans are that come twice.
		if seed%2 == 0 {
			for i := range l {
				attrs := l[i].Attrs
				l[i] = turned(good(), with(attrs...))
			}
		}
		least := slices.MinFunc(l, wantCompare)
		for _, o := range all {
			first := l[o[0]]
			for _, i := range o[1:] {
				first = Prefer(first, l[i])
			}
			last := l[o[0]]
			for _, i := range o[1:] {
				last = Prefer(l[i], last)
			}
			two := Prefer(Prefer(l[o[0]], l[o[1]]), Prefer(l[o[2]], Prefer(l[o[3]], l[o[4]])))
			if !same(first, least) || !same(last, least) || !same(two, least) {
				t.Fatalf("P9.3: of spans %d in order %v: %v, %v, %v, want %v", seed, o, first, last, two, least)
			}
		}
	}
}

func TestP9_3TheSameOfManyInWhateverOrder(t *testing.T) {
	var l []api.Span
	for _, s := range all() {
		l = append(l, s)
	}
	least := slices.MinFunc(l, wantCompare)
	r := rand.New(rand.NewSource(5))
	for range 50 {
		r.Shuffle(len(l), func(i, j int) { l[i], l[j] = l[j], l[i] })
		got := l[0]
		for _, s := range l[1:] {
			got = Prefer(got, s)
		}
		if !same(got, least) {
			t.Errorf("P9.3: of %d spans: %v, want %v", len(l), got, least)
		}
	}
}

// R1: whatever is handed in, all calls end.
func TestR1All(t *testing.T) {
	for _, b := range bodies() {
		Hash(b)
		Text([]string{string(b), string(b)})
	}
	for _, trace := range traces() {
		for _, n := range append(append(counts(), ofs()...), 0) {
			Part(trace, n)
			Share(trace, n)
		}
	}
	for _, s := range all() {
		Prefer(s, api.Span{})
		Prefer(api.Span{}, s)
	}
}

// R4: what is handed in stays as it is, and behind its end too.
func TestR4HandedInStays(t *testing.T) {
	for why, b := range bodies() {
		room := append(slices.Clone(b), 71, 72, 73, 74, 75, 76, 77, 78)
		keep := slices.Clone(room)
		Hash(room[:len(b)])
		if !slices.Equal(room, keep) {
			t.Errorf("R4: Hash (%s) changed what was handed in, or what is behind", why)
		}
	}
	for why, l := range textLists() {
		room := append(slices.Clone(l), "x", "y")
		keep := slices.Clone(room)
		Text(room[:len(l)])
		if !slices.Equal(room, keep) {
			t.Errorf("R4: Text (%s) changed what was handed in, or what is behind", why)
		}
	}
	for why, s := range all() {
		room := append(slices.Clone(s.Attrs), num("x", 1), num("y", 2))
		keep := slices.Clone(room)
		s.Attrs = room[:len(s.Attrs)]
		for _, other := range []api.Span{good(), {}, s} {
			Prefer(s, other)
			Prefer(other, s)
		}
		if !slices.Equal(room, keep) {
			t.Errorf("R4: Prefer (%s) changed what was handed in, or what is behind", why)
		}
	}
}

// spoil writes over all attributes, and behind their end.
func spoil(s api.Span) {
	l := s.Attrs[:cap(s.Attrs)]
	for i := range l {
		l[i] = num("spoilt", -1)
	}
}

// R4: what Prefer tells shares no memory with what was handed in, nor with what it tells again.
func TestR4PreferredIsTheCallers(t *testing.T) {
	spans := all()
	for why, s := range spans {
		for why2, other := range map[string]api.Span{"good": good(), "zero": {}, "itself": s, "at the ends": spans["at the ends"]} {
			a, b := turned(s), turned(other)
			want := turned(a)
			if wantCompare(b, a) < 0 {
				want = turned(b)
			}
			one, two, three := Prefer(a, b), Prefer(a, b), Prefer(b, a)
			spoil(one)
			if !same(a, s) || !same(b, other) {
				t.Errorf("R4: (%s, %s) changing what Prefer told changed what was handed in", why, why2)
			}
			if !same(two, want) || !same(three, want) {
				t.Errorf("R4: (%s, %s) changing what Prefer told changed what it told again", why, why2)
			}
			spoil(a)
			spoil(b)
			if !same(two, want) || !same(three, want) {
				t.Errorf("R4: (%s, %s) what Prefer told was changed with what was handed in", why, why2)
			}
		}
	}
}

// R6: a call answers the same whatever was called between.
func TestR6NothingIsKept(t *testing.T) {
	for why, b := range bodies() {
		Hash(b)
		Text([]string{string(b)})
		Part(uint64(len(b)), len(b))
		Share(uint64(len(b)), len(b))
		Prefer(api.Span{Service: string(b)}, api.Span{})
		if Hash([]byte("foobar")) != 0x85944171f73967e8 || Text([]string{""}) != 0xaf63bd4c8601b7df {
			t.Errorf("R6: Hash or Text behind %s", why)
		}
		if Part(7, 64) != wantPart(7, 64) || Share(7, 500) != wantShare(7, 500) {
			t.Errorf("R6: Part or Share behind %s", why)
		}
		prefers(t, "behind "+why, good(), turned(good(), behind(num("zz", 1))), good())
	}
}

func FuzzDigest(f *testing.F) {
	for _, b := range bodies() {
		f.Add(b, uint64(len(b)), len(b))
	}
	f.Add([]byte("a"), uint64(math.MaxUint64), math.MinInt)
	f.Fuzz(func(t *testing.T, b []byte, trace uint64, n int) {
		if h, want := Hash(b), wantHash(b); h != want {
			t.Errorf("P9.1: Hash of %x: %x, want %x", b, h, want)
		}
		l := strings.SplitAfter(string(b), "a")
		if h, want := Text(l), wantHash(ended(l)); h != want {
			t.Errorf("P9.1: Text of %q: %x, want %x", l, h, want)
		}
		if p, want := Part(trace, n), wantPart(trace, n); p != want {
			t.Errorf("P9.1: Part of %d, %d: %d, want %d", trace, n, p, want)
		}
		if got, want := Share(trace, n), wantShare(trace, n); got != want {
			t.Errorf("P9.1: Share of %d, %d: %v, want %v", trace, n, got, want)
		}
	})
}
