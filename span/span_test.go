package span

import (
	"math"
	"math/rand"
	"reflect"
	"slices"
	"strconv"
	"strings"
	"testing"
	"unicode/utf8"

	"tallyroom/api"
)

// Attributes and their values by short names, for tables.

func num(key string, n int64) api.Attr { return api.Attr{Key: key, V: api.Value{Kind: 1, N: n}} }

func tru(key string, n int64) api.Attr { return api.Attr{Key: key, V: api.Value{Kind: 2, N: n}} }

func txt(key, s string) api.Attr { return api.Attr{Key: key, V: api.Value{Kind: 3, S: s}} }

// long is a text of n bytes.
func long(n int) string { return strings.Repeat("x", n) }

// many has n attributes, no two with one Key, their Keys falling.
func many(n int) []api.Attr {
	l := make([]api.Attr, n)
	for i := range l {
		l[i] = num("k"+strconv.Itoa(1000+n-i), int64(i))
	}
	return l
}

// good is a span that may be, with other numbers in each field.
func good() api.Span {
	return api.Span{
		Trace: 11, ID: 22, Parent: 33, Service: "web", Name: "get", Kind: 1, Status: 2, Start: 44, End: 55,
		Attrs: []api.Attr{txt("http.path", "/a"), num("code", -5), tru("_cached", 1)},
	}
}

// turn changes a span.
type turn func(s *api.Span)

// turned is a span of its own, changed in turn.
func turned(s api.Span, turns ...turn) api.Span {
	s.Attrs = slices.Clone(s.Attrs)
	for _, f := range turns {
		f(&s)
	}
	return s
}

// with is a turn that lays these attributes.
func with(l ...api.Attr) turn { return func(s *api.Span) { s.Attrs = l } }

// edges has turns behind which a span may still be: what the document allows, up to its ends.
func edges() map[string]turn {
	return map[string]turn{
		"nothing":                func(s *api.Span) {},
		"least ids":              func(s *api.Span) { s.Trace, s.ID, s.Parent = 1, 1, 0 },
		"greatest ids":           func(s *api.Span) { s.Trace, s.ID, s.Parent = math.MaxUint64, math.MaxUint64, math.MaxUint64 },
		"its own parent":         func(s *api.Span) { s.Parent = s.ID },
		"times 0":                func(s *api.Span) { s.Start, s.End = 0, 0 },
		"an End at its Start":    func(s *api.Span) { s.Start, s.End = 7, 7 },
		"an End at 2^62":         func(s *api.Span) { s.End = 1 << 62 },
		"both at 2^62":           func(s *api.Span) { s.Start, s.End = 1<<62, 1<<62 },
		"from 0 to 2^62":         func(s *api.Span) { s.Start, s.End = 0, 1<<62 },
		"Kind 0":                 func(s *api.Span) { s.Kind = 0 },
		"Kind 2":                 func(s *api.Span) { s.Kind = 2 },
		"Kind 3":                 func(s *api.Span) { s.Kind = 3 },
		"Kind 4":                 func(s *api.Span) { s.Kind = 4 },
		"Status 0":               func(s *api.Span) { s.Status = 0 },
		"Status 1":               func(s *api.Span) { s.Status = 1 },
		"texts of 1 byte":        func(s *api.Span) { s.Service, s.Name = "s", "n" },
		"a Service of 4096":      func(s *api.Span) { s.Service = long(4096) },
		"a Name of 4096":         func(s *api.Span) { s.Name = long(4096) },
		"4096 wrong bytes":       func(s *api.Span) { s.Name = strings.Repeat("\xff", 4096) },
		"4096 bytes of runes":    func(s *api.Span) { s.Service = strings.Repeat("\U0001F600", 1024) },
		"no plain rune":          func(s *api.Span) { s.Service, s.Name = "\x00", "\u2028\xff\uFFFD" },
		"a blank":                func(s *api.Span) { s.Service = " " },
		"no attribute, nil":      with(),
		"no attribute, not nil":  func(s *api.Span) { s.Attrs = []api.Attr{} },
		"one attribute":          with(num("a", 0)),
		"16 attributes":          with(many(16)...),
		"rising":                 with(num("a", 1), num("b", 2), num("c", 3)),
		"falling":                with(num("c", 3), num("b", 2), num("a", 1)),
		"amid":                   with(num("b", 2), num("c", 3), num("a", 1)),
		"Keys alike but one":     with(num("a", 1), num("A", 1), num("a_", 1), num("a.", 1), num("aa", 1)),
		"Keys of 1 and 64":       with(num("k", 1), num(long(64), 2)),
		"each kind of value":     with(num("c", math.MinInt64), num("d", math.MaxInt64), tru("b", 0), tru("e", 1), txt("a", ""), txt("f", "\xff")),
		"a value of 4096 bytes":  with(txt("a", long(4096))),
		"the same values, twice": with(txt("b", "v"), txt("a", "v")),
	}
}

// wrongs has, for each reason by its place in the order, turns behind which a span may not be.
func wrongs() [6]map[string]turn {
	keys := []string{"", "1", "0a", ".", ".a", " a", "a ", "a-b", "a/b", "é", "aé", "a\x00", "a\xff", long(65), long(4096)}
	values := []api.Value{
		{}, {Kind: 0, N: 1}, {Kind: 4}, {Kind: -1}, {Kind: math.MaxInt}, {Kind: math.MinInt, S: "a"},
		{Kind: 1, S: "a"}, {Kind: 2, N: 2}, {Kind: 2, N: -1}, {Kind: 2, N: 1, S: "a"}, {Kind: 3, N: 1}, {Kind: 3, S: long(4097)},
	}
	attrs := map[string]turn{
		"17 attributes":     with(many(17)...),
		"18 attributes":     with(many(18)...),
		"1000 attributes":   with(many(1000)...),
		"17, all alike":     with(slices.Repeat([]api.Attr{num("a", 1)}, 17)...),
		"twice":             with(num("a", 1), num("a", 2)),
		"twice, all alike":  with(num("a", 1), num("a", 1)),
		"twice, other kind": with(num("a", 1), txt("a", "")),
		"twice, apart":      with(num("a", 1), num("b", 1), num("c", 1), num("a", 1)),
		"twice, of 16":      func(s *api.Span) { s.Attrs = many(16); s.Attrs[15].Key = s.Attrs[0].Key },
		"thrice":            with(num("b", 1), num("b", 2), num("b", 3)),
	}
	for i, key := range keys {
		attrs["Key "+strconv.Itoa(i)+" alone"] = with(num(key, 1))
		attrs["Key "+strconv.Itoa(i)+" first"] = with(num(key, 1), num("a", 1))
		attrs["Key "+strconv.Itoa(i)+" last"] = with(num("a", 1), num("b", 1), num(key, 1))
	}
	for i, v := range values {
		attrs["value "+strconv.Itoa(i)+" alone"] = with(api.Attr{Key: "k", V: v})
		attrs["value "+strconv.Itoa(i)+" first"] = with(api.Attr{Key: "k", V: v}, num("a", 1))
		attrs["value "+strconv.Itoa(i)+" last"] = with(num("a", 1), num("b", 1), api.Attr{Key: "k", V: v})
	}
	return [6]map[string]turn{
		{
			"no Trace": func(s *api.Span) { s.Trace = 0 },
			"no ID":    func(s *api.Span) { s.ID = 0 },
			"neither":  func(s *api.Span) { s.Trace, s.ID = 0, 0 },
		},
		{
			"one ahead":         func(s *api.Span) { s.Start, s.End = 7, 6 },
			"from 5 to 4":       func(s *api.Span) { s.Start, s.End = 5, 4 },
			"End 0":             func(s *api.Span) { s.End = 0 },
			"Start at its end":  func(s *api.Span) { s.Start = math.MaxUint64 },
			"2^62 and 1 less":   func(s *api.Span) { s.Start, s.End = 1<<62, 1<<62-1 },
			"one above 2^62":    func(s *api.Span) { s.End = 1<<62 + 1 },
			"both above":        func(s *api.Span) { s.Start, s.End = 1<<62+1, 1<<62+1 },
			"End 2^63":          func(s *api.Span) { s.End = 1 << 63 },
			"End at its end":    func(s *api.Span) { s.End = math.MaxUint64 },
			"both at their end": func(s *api.Span) { s.Start, s.End = math.MaxUint64, math.MaxUint64 },
			"above and ahead":   func(s *api.Span) { s.Start, s.End = math.MaxUint64, 1<<62+1 },
		},
		numbers(func(s *api.Span, n int) { s.Kind = n }, -1, 5, 6, 256, 1<<32, math.MinInt, math.MaxInt),
		numbers(func(s *api.Span, n int) { s.Status = n }, -1, 3, 4, 256, 1<<32, math.MinInt, math.MaxInt),
		{
			"no Service":         func(s *api.Span) { s.Service = "" },
			"no Name":            func(s *api.Span) { s.Name = "" },
			"neither":            func(s *api.Span) { s.Service, s.Name = "", "" },
			"a Service of 4097":  func(s *api.Span) { s.Service = long(4097) },
			"a Name of 4097":     func(s *api.Span) { s.Name = long(4097) },
			"both too long":      func(s *api.Span) { s.Service, s.Name = long(1<<16), long(1<<16) },
			"none, and too long": func(s *api.Span) { s.Service, s.Name = "", long(4097) },
			"4097 bytes, not so many runes": func(s *api.Span) {
				s.Name = strings.Repeat("\U0001F600", 1024) + "a"
			},
		},
		attrs,
	}
}

// numbers has a turn for each number.
func numbers(set func(s *api.Span, n int), l ...int) map[string]turn {
	out := map[string]turn{}
	for _, n := range l {
		out[strconv.Itoa(n)] = func(s *api.Span) { set(s, n) }
	}
	return out
}

// may has spans that may be.
func may() map[string]api.Span {
	out := map[string]api.Span{}
	for why, f := range edges() {
		out[why] = turned(good(), f)
	}
	return out
}

// mayNot has spans that may not be, by one reason each, and some by several.
func mayNot() map[string]api.Span {
	out := map[string]api.Span{"the zero span": {}}
	for i, turns := range wrongs() {
		for why, f := range turns {
			out[strconv.Itoa(50+i)+": "+why] = turned(good(), f)
		}
	}
	for i := range 200 {
		out["noise "+strconv.Itoa(i)] = noise(int64(i))
	}
	return out
}

// all has both.
func all() map[string]api.Span {
	out := may()
	for why, s := range mayNot() {
		out[why] = s
	}
	return out
}

// noise is a span of few sorts of parts, the same one for each seed, so that parts of two of them
// are often the same.
func noise(seed int64) api.Span {
	r := rand.New(rand.NewSource(seed))
	texts := []string{"", "a", "a", "b", "ab", "\xff", "é\n€", long(4097)}
	keys := []string{"", "a", "a", "b", "ab", "B", "é"}
	s := api.Span{
		Trace: uint64(r.Intn(2)), ID: uint64(r.Intn(2)), Parent: uint64(r.Intn(2)),
		Service: texts[r.Intn(len(texts))], Name: texts[r.Intn(len(texts))],
		Kind: r.Intn(3) - 1, Status: r.Intn(3) - 1,
		Start: uint64(r.Intn(2)), End: uint64(r.Intn(2)),
	}
	for range r.Intn(5) {
		v := api.Value{Kind: r.Intn(4), N: int64(r.Intn(3) - 1), S: texts[r.Intn(3)]}
		s.Attrs = append(s.Attrs, api.Attr{Key: keys[r.Intn(len(keys))], V: v})
	}
	return s
}

// same: are they, field by field? (Lists without items may be nil or empty.)
func same(a, b api.Span) bool {
	l, m := a.Attrs, b.Attrs
	a.Attrs, b.Attrs = nil, nil
	return reflect.DeepEqual(a, b) && slices.Equal(l, m)
}

// The calls, by the document's words.

func wantKey(s string) bool {
	for i, c := range []byte(s) {
		letter := c >= 'a' && c <= 'z' || c >= 'A' && c <= 'Z' || c == '_'
		if !letter && (i == 0 || !(c >= '0' && c <= '9' || c == '.')) {
			return false
		}
	}
	return len(s) >= 1 && len(s) <= 64
}

func wantRight(v api.Value) bool {
	return v.Kind == 1 && v.S == "" || v.Kind == 2 && v.S == "" && (v.N == 0 || v.N == 1) || v.Kind == 3 && v.N == 0 && len(v.S) <= 4096
}

// wantAttrs asks for Keys that are there twice by a map.
func wantAttrs(l []api.Attr) bool {
	keys := map[string]bool{}
	for _, a := range l {
		if !wantKey(a.Key) || !wantRight(a.V) || keys[a.Key] {
			return false
		}
		keys[a.Key] = true
	}
	return len(l) <= 16
}

func wantCheck(s api.Span) api.Errno {
	name := func(s string) bool { return len(s) >= 1 && len(s) <= 4096 }
	for i, right := range []bool{
		s.Trace != 0 && s.ID != 0,
		s.Start <= s.End && s.End <= 4611686018427387904,
		s.Kind >= 0 && s.Kind <= 4,
		s.Status >= 0 && s.Status <= 2,
		name(s.Service) && name(s.Name),
		wantAttrs(s.Attrs),
	} {
		if !right {
			return api.Errno(50 + i)
		}
	}
	return api.OK
}

// wantLabel goes from rune to rune, as the library decodes them, till one finds no room.
func wantLabel(s string, most int) string {
	var out []byte
	for s != "" {
		r, n := utf8.DecodeRuneInString(s)
		next := s[:n]
		if r < 0x20 || r >= 0x7F && r <= 0x9F || r == 0x2028 || r == 0x2029 || r == 0xFFFD {
			next = "_"
		}
		if len(out)+len(next) > most {
			break
		}
		out = append(out, next...)
		s = s[n:]
	}
	if len(out) == 0 {
		return "_"
	}
	return string(out)
}

// wantAlike lays attribute by attribute behind all whose Keys are not greater.
func wantAlike(s api.Span, most int) api.Span {
	s.Service, s.Name = wantLabel(s.Service, most), wantLabel(s.Name, most)
	var l []api.Attr
	for _, a := range s.Attrs {
		i := len(l)
		for i > 0 && l[i-1].Key > a.Key {
			i--
		}
		l = slices.Insert(l, i, a)
	}
	s.Attrs = l
	return s
}

// part compares two parts of spans, where they are of one type that has an order.
func part(a, b any) int {
	less := false
	switch x := a.(type) {
	case uint64:
		less = x < b.(uint64)
	case int64:
		less = x < b.(int64)
	case int:
		less = x < b.(int)
	case string:
		less = x < b.(string)
	}
	switch {
	case a == b:
		return 0
	case less:
		return -1
	}
	return 1
}

// parts has what spans are compared by, in order; a list that ends is less than one that goes on.
func parts(s api.Span) []any {
	l := []any{s.Trace, s.ID, s.Parent, s.Service, s.Name, s.Kind, s.Status, s.Start, s.End}
	for _, a := range s.Attrs {
		l = append(l, a.Key, a.V.Kind, a.V.N, a.V.S)
	}
	return l
}

func wantCompare(a, b api.Span) int {
	l, m := parts(a), parts(b)
	for i := range min(len(l), len(m)) {
		if c := part(l[i], m[i]); c != 0 {
			return c
		}
	}
	return part(len(l), len(m))
}

// lengths has lengths at which labels of s are cut: below 1, all of short ones, and far above.
func lengths(s api.Span) []int {
	l := []int{math.MinInt, math.MinInt32, -2, -1, 0, 63, 64, 4095, 4096, 4097, math.MaxInt32, math.MaxInt}
	for n := range min(20, max(len(s.Service), len(s.Name))) {
		l = append(l, n+1)
	}
	return l
}

func TestP6_1CheckMayBe(t *testing.T) {
	for why, s := range may() {
		if e := Check(s); e != api.OK {
			t.Errorf("P6.1: Check of one that may be (%s): %d", why, e)
		}
	}
}

func TestP6_1CheckEachReason(t *testing.T) {
	for i, turns := range wrongs() {
		for why, f := range turns {
			if e := Check(turned(good(), f)); e != api.Errno(50+i) {
				t.Errorf("P6.1: Check (%s): %d, want %d", why, e, 50+i)
			}
		}
	}
	if e := Check(api.Span{}); e != api.ErrZero {
		t.Errorf("P6.1: Check of the zero span: %d", e)
	}
}

// The example: from 5 to 4.
func TestP6_1Example(t *testing.T) {
	if e := Check(api.Span{Trace: 1, ID: 1, Service: "s", Name: "n", Start: 5, End: 4}); e != api.ErrTime {
		t.Errorf("P6.1: Check of a span from 5 to 4: %d", e)
	}
}

// Two reasons at once, in each form of both: the first one is told.
func TestP6_1FirstOfTwoReasons(t *testing.T) {
	turns := wrongs()
	for i := range turns {
		for j := range i {
			for why, f := range turns[i] {
				for why2, g := range turns[j] {
					if e := Check(turned(good(), f, g)); e != api.Errno(50+j) {
						t.Fatalf("P6.1: Check (%s, %s): %d, want %d", why2, why, e, 50+j)
					}
				}
			}
		}
	}
}

// All choices of reasons: the first one is told.
func TestP6_1FirstOfManyReasons(t *testing.T) {
	one := []turn{
		func(s *api.Span) { s.ID = 0 },
		func(s *api.Span) { s.Start, s.End = 5, 4 },
		func(s *api.Span) { s.Kind = 5 },
		func(s *api.Span) { s.Status = -1 },
		func(s *api.Span) { s.Name = "" },
		with(num("a", 1), num("a", 1)),
	}
	for choice := range 64 {
		s, want := good(), api.OK
		for i := 5; i >= 0; i-- {
			if choice>>i&1 == 1 {
				s, want = turned(s, one[i]), api.Errno(50+i)
			}
		}
		if e := Check(s); e != want {
			t.Errorf("P6.1: Check of reasons %06b: %d, want %d", choice, e, want)
		}
	}
}

// Attributes of which each two have one Key, of each number that may be.
func TestP6_1CheckTwiceAnywhere(t *testing.T) {
	for n := range 17 {
		if e := Check(turned(good(), with(many(n)...))); e != api.OK {
			t.Errorf("P6.1: Check of %d attributes: %d", n, e)
		}
		for i := range n {
			for j := range i {
				s := turned(good(), with(many(n)...))
				s.Attrs[i].Key = s.Attrs[j].Key
				if e := Check(s); e != api.ErrAttrs {
					t.Errorf("P6.1: Check of %d attributes, %d and %d with one Key: %d", n, j, i, e)
				}
			}
		}
	}
}

func TestP6_1CheckAll(t *testing.T) {
	for why, s := range all() {
		if e := Check(s); e != wantCheck(s) {
			t.Errorf("P6.1: Check (%s): %d, want %d", why, e, wantCheck(s))
		}
	}
}

func TestP6_1Reasons(t *testing.T) {
	want := []api.Errno{50, 51, 52, 53, 54, 55}
	l := Reasons()
	if !slices.Equal(l, want) {
		t.Fatalf("P6.1: Reasons: %v", l)
	}
	clear(l)
	if again := Reasons(); !slices.Equal(again, want) {
		t.Errorf("R4: Reasons, when those told before were changed: %v", again)
	}
}

// What Check tells is a reason, or OK.
func TestP6_1ReasonsAreAll(t *testing.T) {
	told := map[api.Errno]bool{api.OK: true}
	for why, s := range all() {
		e := Check(s)
		if e != api.OK && !slices.Contains(Reasons(), e) {
			t.Errorf("P6.1: Check (%s): %d is no reason", why, e)
		}
		told[e] = true
	}
	if len(told) != 1+len(Reasons()) {
		t.Errorf("P6.1: only these were told: %v", told)
	}
}

func TestP6_2AlikeNames(t *testing.T) {
	for _, x := range []struct {
		s    string
		most int
		want string
	}{
		{"web", 3, "web"}, {"web", 4, "web"}, {"web", math.MaxInt, "web"},
		{"web", 2, "we"}, {"web", 1, "w"},
		{"web", 0, "_"}, {"web", -1, "_"}, {"web", math.MinInt, "_"},
		{"", 5, "_"}, {"", 1, "_"}, {"", 0, "_"}, {"", -1, "_"},
		{"_", 1, "_"}, {"_", 0, "_"},
		{"ab\x00cd", 4, "ab_c"}, {"ab\x00cd", 9, "ab_cd"},
		{"a\xffé\n", 64, "a_é_"}, {"a\xffé\n", 3, "a_"}, {"a\xffé\n", 4, "a_é"},
		{"\xff", 1, "_"}, {"\x00\x00", 1, "_"}, {"\x00\x00", 2, "__"}, {"\u2028a", 2, "_a"}, {"\uFFFD", 3, "_"},
		// Of a rune that has no room nothing is left.
		{"é", 1, "_"}, {"é", 2, "é"}, {"€", 2, "_"}, {"€", 3, "€"}, {"\U0001F600", 3, "_"}, {"\U0001F600", 4, "\U0001F600"},
		{"aé", 2, "a"}, {"éa", 1, "_"},
		{" ", 1, " "},
		{long(4096), 4096, long(4096)}, {long(4097), 4096, long(4096)}, {long(4097), 5000, long(4097)}, {long(4096), 64, long(64)},
	} {
		if got := Alike(api.Span{Service: x.s, Name: "_"}, x.most); got.Service != x.want || got.Name != "_" {
			t.Errorf("P6.2: Alike of Service %.20q with %d: %.20q, %q", x.s, x.most, got.Service, got.Name)
		}
		if got := Alike(api.Span{Service: "_", Name: x.s}, x.most); got.Name != x.want || got.Service != "_" {
			t.Errorf("P6.2: Alike of Name %.20q with %d: %.20q, %q", x.s, x.most, got.Name, got.Service)
		}
	}
}

func TestP6_2AlikeAttrs(t *testing.T) {
	a, b, c := num("a", 3), txt("b", "2"), tru("c", 1)
	wrong := api.Attr{Key: "\xff", V: api.Value{Kind: 9, N: 9, S: "9"}}
	for why, x := range map[string]struct{ l, want []api.Attr }{
		"nil":              {nil, nil},
		"none":             {[]api.Attr{}, nil},
		"one":              {[]api.Attr{a}, []api.Attr{a}},
		"rising":           {[]api.Attr{a, b, c}, []api.Attr{a, b, c}},
		"falling":          {[]api.Attr{c, b, a}, []api.Attr{a, b, c}},
		"round":            {[]api.Attr{b, c, a}, []api.Attr{a, b, c}},
		"by bytes":         {[]api.Attr{num("b", 1), num("a_", 1), num("aa", 1), num("a.", 1), num("a0", 1), num("a", 1), num("_", 1), num("Z", 1)}, []api.Attr{num("Z", 1), num("_", 1), num("a", 1), num("a.", 1), num("a0", 1), num("a_", 1), num("aa", 1), num("b", 1)}},
		"Keys, not values": {[]api.Attr{num("b", 1), num("a", 2)}, []api.Attr{num("a", 2), num("b", 1)}},
		"twice":            {[]api.Attr{num("a", 2), num("a", 1)}, []api.Attr{num("a", 2), num("a", 1)}},
		"twice, apart":     {[]api.Attr{txt("b", "z"), txt("a", "z"), txt("b", "y"), num("b", 0), txt("a", "a")}, []api.Attr{txt("a", "z"), txt("a", "a"), txt("b", "z"), txt("b", "y"), num("b", 0)}},
		"wrong ones":       {[]api.Attr{wrong, b, {}, a}, []api.Attr{{}, a, b, wrong}},
		"wrong Key, right": {[]api.Attr{num("é", 1), num("1", 2), num("", 3)}, []api.Attr{num("", 3), num("1", 2), num("é", 1)}},
	} {
		s := turned(good(), with(x.l...))
		want := turned(good(), with(x.want...))
		if got := Alike(s, 64); !same(got, want) {
			t.Errorf("P6.2: Alike (%s): %v, want %v", why, got, want)
		}
	}
}

// Many attributes with few Keys: of one Key the earlier one stands first, however many there are.
func TestP6_2AlikeKeepsTheEarlierFirst(t *testing.T) {
	for _, n := range []int{2, 16, 17, 100, 1000} {
		s := good()
		s.Attrs = nil
		for i := range n {
			s.Attrs = append(s.Attrs, num(string(rune('a'+i*7%5)), int64(i)))
		}
		got := Alike(s, 64).Attrs
		if len(got) != n {
			t.Errorf("P6.2: Alike of %d attributes has %d", n, len(got))
		}
		for i := range got[1:] {
			a, b := got[i], got[i+1]
			if a.Key > b.Key || a.Key == b.Key && a.V.N >= b.V.N {
				t.Errorf("P6.2: Alike of %d attributes: %v ahead of %v", n, a, b)
			}
		}
	}
}

// All but names and the order of attributes stays, whether or not the span may be.
func TestP6_2AlikeAll(t *testing.T) {
	for why, s := range all() {
		for _, most := range lengths(s) {
			if got, want := Alike(s, most), wantAlike(s, most); !same(got, want) {
				t.Fatalf("P6.2: Alike (%s) with %d: %.200v, want %.200v", why, most, got, want)
			}
		}
	}
}

func TestP6_2Took(t *testing.T) {
	for _, x := range []struct{ start, end, want uint64 }{
		{0, 0, 0}, {3, 3, 0}, {3, 4, 1}, {3, 10, 7}, {0, 9, 9},
		{4, 3, 0}, {5, 0, 0}, {1, 0, 0},
		{0, 1 << 62, 1 << 62}, {1 << 62, 1 << 62, 0}, {1 << 62, 1<<62 - 1, 0},
		{0, math.MaxUint64, math.MaxUint64}, {1, math.MaxUint64, math.MaxUint64 - 1}, {math.MaxUint64, math.MaxUint64, 0},
		{math.MaxUint64, 0, 0}, {math.MaxUint64, math.MaxUint64 - 1, 0}, {1, 1 << 63, 1<<63 - 1}, {1 << 63, 1, 0},
	} {
		s := good()
		s.Start, s.End = x.start, x.end
		if got := Took(s); got != x.want {
			t.Errorf("P6.2: Took from %d to %d: %d, want %d", x.start, x.end, got, x.want)
		}
	}
}

func TestP6_2Failed(t *testing.T) {
	for _, status := range []int{0, 1, 2, 3, -1, -2, 258, 1<<32 + 2, math.MinInt, math.MaxInt} {
		s := good()
		s.Status = status
		if got := Failed(s); got != (status == 2) {
			t.Errorf("P6.2: Failed of Status %d: %v", status, got)
		}
	}
	if Failed(api.Span{}) {
		t.Error("P6.2: Failed of the zero span")
	}
}

func TestP6_2Attr(t *testing.T) {
	wrong := api.Value{Kind: 9, N: 9, S: "9"}
	l := []api.Attr{num("b", 4), txt("a", "x"), num("b", 5), tru("a", 1), tru("c", 0), txt("d", ""), {Key: "", V: wrong}, {Key: "\xff", V: wrong}, {Key: "z"}}
	for _, x := range []struct {
		key   string
		want  api.Value
		there bool
	}{
		{"a", api.Value{Kind: 3, S: "x"}, true},
		{"b", api.Value{Kind: 1, N: 4}, true},
		{"c", api.Value{Kind: 2}, true},
		{"d", api.Value{Kind: 3}, true},
		{"z", api.Value{}, true},
		{"", wrong, true},
		{"\xff", wrong, true},
		{"e", api.Value{}, false},
		{"A", api.Value{}, false},
		{"ab", api.Value{}, false},
		{" a", api.Value{}, false},
		{"x", api.Value{}, false},
		{"\uFFFD", api.Value{}, false},
		{long(5000), api.Value{}, false},
	} {
		if v, there := Attr(turned(good(), with(l...)), x.key); v != x.want || there != x.there {
			t.Errorf("P6.2: Attr %.20q: %v, %v, want %v, %v", x.key, v, there, x.want, x.there)
		}
	}
	for _, l := range [][]api.Attr{nil, {}} {
		for _, key := range []string{"", "a"} {
			if v, there := Attr(turned(good(), with(l...)), key); v != (api.Value{}) || there {
				t.Errorf("P6.2: Attr %q of no attributes: %v, %v", key, v, there)
			}
		}
	}
}

// What stands first when it is made alike is the one that Attr told before.
func TestP6_2AttrStaysWhenMadeAlike(t *testing.T) {
	for why, s := range all() {
		for _, a := range s.Attrs {
			v, there := Attr(s, a.Key)
			v2, there2 := Attr(Alike(s, 8), a.Key)
			if v != v2 || !there || !there2 {
				t.Fatalf("P6.2: Attr (%s) %.20q: %v, %v, made alike %v, %v", why, a.Key, v, there, v2, there2)
			}
		}
	}
}

// steps has, part by part in the order in which they are compared, spans that rise by that part.
func steps() [][]api.Span {
	var out [][]api.Span
	rise := func(turns ...turn) {
		var l []api.Span
		for _, f := range turns {
			l = append(l, turned(good(), f))
		}
		out = append(out, l)
	}
	uints := func(set func(s *api.Span, n uint64)) {
		var l []turn
		for _, n := range []uint64{0, 1, 2, 300, 1 << 32, 1<<63 - 1, 1 << 63, math.MaxUint64} {
			l = append(l, func(s *api.Span) { set(s, n) })
		}
		rise(l...)
	}
	texts := func(set func(s *api.Span, t string)) {
		var l []turn
		for _, t := range []string{"", "\x00", "10", "9", "B", "_", "a", "a\x00", "aa", "ab", "b", "é", "\uFFFD", "\U0001F600", "\xff"} {
			l = append(l, func(s *api.Span) { set(s, t) })
		}
		rise(l...)
	}
	ints := func(set func(s *api.Span, n int)) {
		var l []turn
		for _, n := range []int{math.MinInt, -2, -1, 0, 1, 2, 4, 5, math.MaxInt} {
			l = append(l, func(s *api.Span) { set(s, n) })
		}
		rise(l...)
	}
	uints(func(s *api.Span, n uint64) { s.Trace = n })
	uints(func(s *api.Span, n uint64) { s.ID = n })
	uints(func(s *api.Span, n uint64) { s.Parent = n })
	texts(func(s *api.Span, t string) { s.Service = t })
	texts(func(s *api.Span, t string) { s.Name = t })
	ints(func(s *api.Span, n int) { s.Kind = n })
	ints(func(s *api.Span, n int) { s.Status = n })
	uints(func(s *api.Span, n uint64) { s.Start = n })
	uints(func(s *api.Span, n uint64) { s.End = n })
	texts(func(s *api.Span, t string) { s.Attrs[0].Key = t })
	ints(func(s *api.Span, n int) { s.Attrs[0].V.Kind = n })
	texts(func(s *api.Span, t string) { s.Attrs[0].V.S = t })
	rise(with(num("a", math.MinInt64)), with(num("a", -1)), with(num("a", 0)), with(num("a", 1)), with(num("a", math.MaxInt64)))
	rise(with(), with(num("a", 1)), with(num("a", 1), num("a", 1)), with(num("a", 1), num("b", 0)), with(num("a", 2)), with(tru("a", 0)), with(tru("a", 1)), with(txt("a", "")), with(txt("a", "b")), with(num("b", 0)))
	return out
}

func TestP6_3CompareEachPart(t *testing.T) {
	for k, l := range steps() {
		for i, a := range l {
			for j, b := range l {
				if got, want := Compare(a, b), part(i, j); got != want {
					t.Errorf("P6.3: Compare, part %d, %d and %d: %d, want %d", k, i, j, got, want)
				}
			}
		}
	}
}

// A part that comes earlier is asked ahead of one that comes later and says otherwise.
func TestP6_3ComparePartsInOrder(t *testing.T) {
	turns := []struct{ low, high turn }{
		{func(s *api.Span) { s.Trace = 1 }, func(s *api.Span) { s.Trace = 2 }},
		{func(s *api.Span) { s.ID = 1 }, func(s *api.Span) { s.ID = 2 }},
		{func(s *api.Span) { s.Parent = 1 }, func(s *api.Span) { s.Parent = 2 }},
		{func(s *api.Span) { s.Service = "a" }, func(s *api.Span) { s.Service = "b" }},
		{func(s *api.Span) { s.Name = "a" }, func(s *api.Span) { s.Name = "b" }},
		{func(s *api.Span) { s.Kind = 1 }, func(s *api.Span) { s.Kind = 2 }},
		{func(s *api.Span) { s.Status = 1 }, func(s *api.Span) { s.Status = 2 }},
		{func(s *api.Span) { s.Start = 1 }, func(s *api.Span) { s.Start = 2 }},
		{func(s *api.Span) { s.End = 1 }, func(s *api.Span) { s.End = 2 }},
		{func(s *api.Span) { s.Attrs[0].Key = "a" }, func(s *api.Span) { s.Attrs[0].Key = "b" }},
		{func(s *api.Span) { s.Attrs[0].V.Kind = 1 }, func(s *api.Span) { s.Attrs[0].V.Kind = 2 }},
		{func(s *api.Span) { s.Attrs[0].V.N = 1 }, func(s *api.Span) { s.Attrs[0].V.N = 2 }},
		{func(s *api.Span) { s.Attrs[0].V.S = "a" }, func(s *api.Span) { s.Attrs[0].V.S = "b" }},
		{func(s *api.Span) { s.Attrs[1].Key = "a" }, func(s *api.Span) { s.Attrs[1].Key = "b" }},
		{func(s *api.Span) { s.Attrs[2].V.N = 1 }, func(s *api.Span) { s.Attrs[2].V.N = 2 }},
		{func(s *api.Span) { s.Attrs = s.Attrs[:3] }, func(s *api.Span) { s.Attrs = append(s.Attrs, num("d", 0)) }},
	}
	for i := range turns {
		for j := range i {
			a := turned(good(), turns[i].high, turns[j].low)
			b := turned(good(), turns[i].low, turns[j].high)
			if Compare(a, b) != -1 || Compare(b, a) != 1 {
				t.Errorf("P6.3: Compare by parts %d and %d: %d, turned round %d", j, i, Compare(a, b), Compare(b, a))
			}
		}
	}
}

// Of lists of which one is the beginning of the other, the one that ends is less.
func TestP6_3CompareBeginnings(t *testing.T) {
	l := many(17)
	for n := range 18 {
		for m := range 18 {
			a, b := turned(good(), with(l[:n]...)), turned(good(), with(l[:m]...))
			if got := Compare(a, b); got != part(n, m) {
				t.Errorf("P6.3: Compare of the first %d and %d attributes: %d", n, m, got)
			}
		}
	}
	a, b := turned(good(), with()), turned(good(), func(s *api.Span) { s.Attrs = []api.Attr{} })
	if Compare(a, b) != 0 || Compare(b, a) != 0 {
		t.Error("R3: a list without items isn't the same, nil and empty")
	}
}

// Attributes are compared as they stand, not by their Keys.
func TestP6_3CompareAsTheyStand(t *testing.T) {
	a := turned(good(), with(num("a", 1), num("b", 2)))
	b := turned(good(), with(num("b", 2), num("a", 1)))
	if Compare(a, b) != -1 || Compare(b, a) != 1 {
		t.Errorf("P6.3: Compare of two orders: %d, %d", Compare(a, b), Compare(b, a))
	}
	if Compare(Alike(a, 9), Alike(b, 9)) != 0 {
		t.Error("P6.3: two orders made alike aren't the same")
	}
}

func TestP6_3CompareAll(t *testing.T) {
	var l []api.Span
	for _, s := range all() {
		l = append(l, s)
	}
	for _, a := range l {
		for _, b := range l {
			got := Compare(a, b)
			if got != wantCompare(a, b) || got != -Compare(b, a) || (got == 0) != same(a, b) {
				t.Fatalf("P6.3: Compare(%.200v, %.200v): %d, turned round %d, want %d", a, b, got, Compare(b, a), wantCompare(a, b))
			}
		}
	}
}

// follows asks what P6.4 says of s.
func follows(t *testing.T, why string, s api.Span, most int) {
	t.Helper()
	one := Alike(s, most)
	if most >= 1 && Check(s) == api.OK && Check(one) != api.OK {
		t.Errorf("P6.4: Check (%s), made alike with %d: %d", why, most, Check(one))
	}
	if two := Alike(one, most); !same(one, two) {
		t.Errorf("P6.4: (%s) made alike with %d, and again: %.200v, %.200v", why, most, one, two)
	}
	if most >= 1 && max(len(one.Service), len(one.Name)) > most {
		t.Errorf("P6.4: (%s) made alike with %d is longer: %.200v", why, most, one)
	}
}

func TestP6_4Follows(t *testing.T) {
	for why, s := range all() {
		for _, most := range lengths(s) {
			follows(t, why, s, most)
		}
	}
}

// One that is alike already is told as it is.
func TestP6_4AlikeStays(t *testing.T) {
	s := turned(good(), with(num("a", 2), txt("b", "\xff"), tru("c", 0)))
	for _, most := range []int{3, 4, 64, 4096, math.MaxInt} {
		if got := Alike(s, most); !same(got, s) {
			t.Errorf("P6.4: Alike with %d: %v, want %v", most, got, s)
		}
	}
}

// R4: what is handed in stays as it is, and behind the end of its attributes too.
func TestR4HandedInStays(t *testing.T) {
	for why, s := range all() {
		room := append(slices.Clone(s.Attrs), num("zz", 1), num("aa", 2))
		keep := slices.Clone(room)
		in := s
		in.Attrs = room[:len(s.Attrs)]
		Check(in)
		Alike(in, 2)
		Took(in)
		Failed(in)
		Attr(in, "a")
		Compare(in, in)
		if !same(in, s) || !slices.Equal(room, keep) {
			t.Errorf("R4: (%s) was changed to %.200v", why, in)
		}
	}
}

// R4: what is told shares no memory with what was handed in, nor with what is told again.
func TestR4ToldIsTheCallers(t *testing.T) {
	for why, s := range all() {
		room := append(slices.Clone(s.Attrs), num("zz", 1))
		in := s
		in.Attrs = room[:len(s.Attrs)]
		one, two := Alike(in, 64), Alike(in, 64)
		want := wantAlike(s, 64)
		clear(one.Attrs)
		one.Attrs = append(one.Attrs, num("yy", 9))
		if !same(in, s) || !same(two, want) || room[len(s.Attrs)] != num("zz", 1) {
			t.Errorf("R4: (%s) changing what was told changed another", why)
		}
		clear(room)
		if !same(two, want) {
			t.Errorf("R4: (%s) changing what was handed in changed what was told", why)
		}
	}
}

// R6: a call answers the same whatever was called between.
func TestR6NothingIsKept(t *testing.T) {
	s := good()
	want := wantAlike(s, 2)
	for why, other := range all() {
		Check(other)
		Alike(other, 3)
		Attr(other, "code")
		Compare(other, s)
		v, there := Attr(s, "code")
		if Check(s) != api.OK || !same(Alike(s, 2), want) || Took(s) != 11 || !Failed(s) || v.N != -5 || !there || Compare(s, s) != 0 {
			t.Fatalf("R6: behind (%s) the answers are others", why)
		}
	}
}

func FuzzSpan(f *testing.F) {
	f.Add(uint64(1), uint64(2), uint64(3), "web", "get\xff", 1, 2, uint64(5), uint64(4), "a", "b", 1, int64(1), "x", 9)
	f.Add(uint64(0), uint64(1), uint64(0), "", "\u2028é", 5, -1, uint64(0), uint64(1<<62+1), "k.", "k.", 3, int64(0), "", 1)
	f.Fuzz(func(t *testing.T, trace, id, parent uint64, service, name string, kind, status int, start, end uint64, key, key2 string, vkind int, n int64, text string, most int) {
		v := api.Value{Kind: vkind, N: n, S: text}
		s := api.Span{Trace: trace, ID: id, Parent: parent, Service: service, Name: name, Kind: kind, Status: status, Start: start, End: end,
			Attrs: []api.Attr{{Key: key, V: v}, num(key2, n), {Key: key, V: v}}}
		for n := range 4 {
			s.Attrs = s.Attrs[:min(n, 3)]
			if e := Check(s); e != wantCheck(s) {
				t.Errorf("Check(%v): %d, want %d", s, e, wantCheck(s))
			}
			if got, want := Alike(s, most), wantAlike(s, most); !same(got, want) {
				t.Errorf("Alike(%v, %d): %v, want %v", s, most, got, want)
			}
			follows(t, "fuzz", s, most)
			if got := Compare(s, good()); got != wantCompare(s, good()) || got != -Compare(good(), s) {
				t.Errorf("Compare(%v, good): %d", s, got)
			}
		}
	})
}
