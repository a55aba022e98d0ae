package batch

import (
	"bytes"
	"encoding/binary"
	"math"
	"math/rand"
	"reflect"
	"slices"
	"strconv"
	"strings"
	"testing"

	"tallyroom/api"
)

// Attributes and their values by short names, for tables.

func num(key string, n int64) api.Attr { return api.Attr{Key: key, V: api.Value{Kind: 1, N: n}} }

func tru(key string, n int64) api.Attr { return api.Attr{Key: key, V: api.Value{Kind: 2, N: n}} }

func txt(key, s string) api.Attr { return api.Attr{Key: key, V: api.Value{Kind: 3, S: s}} }

// long is a text of n bytes.
func long(n int) string { return strings.Repeat("x", n) }

// many has n attributes with the same Key: a batch takes them, though no span may have them.
func many(n int) []api.Attr { return slices.Repeat([]api.Attr{tru("k", 1)}, n) }

// good is a span with other numbers and texts in each field.
func good() api.Span {
	return api.Span{
		Trace: 300, ID: 22, Parent: 1 << 40, Service: "web", Name: "get", Kind: 1, Status: 2, Start: 44, End: 5000,
		Attrs: []api.Attr{txt("path", "/a"), num("code", -500), tru("cached", 1)},
	}
}

// turn changes a span.
type turn func(s *api.Span)

// turned is a span of its own, changed in turn.
func turned(s api.Span, turns ...turn) api.Span {
	s.Attrs = slices.Clone(s.Attrs)
	for _, f := range turns {
		f(&s)
	}
	return s
}

// with is a turn that lays these attributes.
func with(l ...api.Attr) turn { return func(s *api.Span) { s.Attrs = l } }

// edges has turns behind which a span can still be put.
func edges() map[string]turn {
	out := map[string]turn{
		"nothing":                  func(s *api.Span) {},
		"the zero span":            func(s *api.Span) { *s = api.Span{} },
		"numbers 0":                func(s *api.Span) { s.Trace, s.ID, s.Parent, s.Start, s.End = 0, 0, 0, 0, 0 },
		"an End ahead of Start":    func(s *api.Span) { s.Start, s.End = 5, 4 },
		"no Service":               func(s *api.Span) { s.Service = "" },
		"no Name":                  func(s *api.Span) { s.Name = "" },
		"no text":                  func(s *api.Span) { s.Service, s.Name = "", ""; s.Attrs = []api.Attr{tru("", 0)} },
		"one text for all":         func(s *api.Span) { s.Service, s.Name = "k", "k"; s.Attrs = many(3) },
		"a Key that is the Name":   func(s *api.Span) { s.Attrs[1].Key = s.Name },
		"a text that is a Service": func(s *api.Span) { s.Attrs[0].V.S = s.Service },
		"texts of 4096":            func(s *api.Span) { s.Service, s.Name, s.Attrs[0].Key = long(4096), "y"+long(4095), long(4095)+"y" },
		"texts of 127, 128":        func(s *api.Span) { s.Service, s.Name = long(127), long(128) },
		"no UTF-8":                 func(s *api.Span) { s.Service, s.Name, s.Attrs[0].V.S = "\xff", "\x00", "\xc3" },
		"no attribute, nil":        with(),
		"no attribute, not nil":    func(s *api.Span) { s.Attrs = []api.Attr{} },
		"one attribute":            with(num("a", 7)),
		"15 attributes":            with(many(15)...),
		"16 attributes":            with(many(16)...),
		"a Key twice":              with(num("a", 1), txt("b", "b"), num("a", 2)),
		"numbers at their ends":    with(num("a", math.MinInt64), num("b", math.MaxInt64), num("c", 0), num("d", -1)),
		"truths":                   with(tru("a", 0), tru("b", 1)),
		"texts as values":          with(txt("a", ""), txt("b", "a"), txt("c", long(127)), txt("d", long(128)), txt("e", long(4096))),
	}
	for i, n := range []uint64{1, 127, 128, 1 << 32, 1 << 62, 1<<63 - 1, 1 << 63, math.MaxUint64} {
		no := strconv.Itoa(i)
		out["Trace "+no] = func(s *api.Span) { s.Trace = n }
		out["ID "+no] = func(s *api.Span) { s.ID = n }
		out["Parent "+no] = func(s *api.Span) { s.Parent = n }
		out["Start "+no] = func(s *api.Span) { s.Start = n }
		out["End "+no] = func(s *api.Span) { s.End = n }
		out["all "+no] = func(s *api.Span) { s.Trace, s.ID, s.Parent, s.Start, s.End = n, n, n, n, n }
	}
	for _, n := range []int{0, 3, 4, 5, 127, 128, 254, 255} {
		out["Kind "+strconv.Itoa(n)] = func(s *api.Span) { s.Kind = n }
		out["Status "+strconv.Itoa(n)] = func(s *api.Span) { s.Status = n }
	}
	return out
}

// argWrongs has turns that are ErrArg.
func argWrongs() map[string]turn {
	out := map[string]turn{}
	for _, n := range []int{-1, 256, 257, 512, -256, 1 << 32, math.MinInt, math.MaxInt} {
		out["Kind "+strconv.Itoa(n)] = func(s *api.Span) { s.Kind = n }
		out["Status "+strconv.Itoa(n)] = func(s *api.Span) { s.Status = n }
	}
	for i, v := range []api.Value{
		{}, {Kind: 0, N: 1}, {Kind: 4}, {Kind: -1}, {Kind: 257}, {Kind: math.MaxInt}, {Kind: math.MinInt, S: "a"},
		{Kind: 1, S: "a"}, {Kind: 2, N: 2}, {Kind: 2, N: -1}, {Kind: 2, N: 1, S: "a"}, {Kind: 3, N: 1}, {Kind: 3, S: long(4097)},
	} {
		a, no := api.Attr{Key: "k", V: v}, strconv.Itoa(i)
		out["value "+no+", first"] = func(s *api.Span) { s.Attrs = slices.Insert(s.Attrs, 0, a) }
		out["value "+no+", last"] = func(s *api.Span) { s.Attrs = append(s.Attrs, a) }
	}
	return out
}

// longWrongs has turns that are ErrLong, and leave what else is wrong as it is.
func longWrongs() map[string]turn {
	return map[string]turn{
		"17 attributes": func(s *api.Span) {
			s.Attrs = append(s.Attrs, many(max(0, 17-len(s.Attrs)))...)
		},
		"17, ahead of the others": func(s *api.Span) { s.Attrs = slices.Concat(many(max(0, 17-len(s.Attrs))), s.Attrs) },
		"1000 attributes":         func(s *api.Span) { s.Attrs = append(s.Attrs, many(1000)...) },
		"a Service of 4097":       func(s *api.Span) { s.Service = long(4097) },
		"a Name of 4097":          func(s *api.Span) { s.Name = long(4097) },
		"a Service of 2^17":       func(s *api.Span) { s.Service = long(1 << 17) },
		"a Key of 4097, first":    func(s *api.Span) { s.Attrs = slices.Insert(s.Attrs, 0, tru(long(4097), 1)) },
		"a Key of 4097, last":     func(s *api.Span) { s.Attrs = append(s.Attrs, tru(long(4097), 1)) },
		"4097 bytes, fewer runes": func(s *api.Span) { s.Name = strings.Repeat("é", 2048) + "x" },
	}
}

// fresh has spans with n texts, no two alike and all of few bytes, as many as fit to a span.
func fresh(n int) []api.Span {
	name := func(i int) string { return strconv.FormatInt(int64(i), 36) }
	var l []api.Span
	for i := 0; i < n; {
		s := api.Span{Service: name(i), Name: name(min(i+1, n-1))}
		for i += 2; i < n && len(s.Attrs) < 16; i++ {
			s.Attrs = append(s.Attrs, tru(name(i), 0))
		}
		l = append(l, s)
	}
	return l
}

// filled has one span whose texts as values fill the batch to n bytes, from some 63600 to 65600.
func filled(n int) []api.Span {
	s := api.Span{Service: "s", Name: "n"}
	for range 15 {
		s.Attrs = append(s.Attrs, txt("k", long(4096)))
	}
	s.Attrs = append(s.Attrs, txt("k", long(2000)))
	s.Attrs[15].V.S = long(2000 + n - len(rawBytes([]api.Span{s})))
	return []api.Span{s}
}

// filledByTable has spans whose table fills the batch to n bytes.
func filledByTable(n int) []api.Span {
	var l []api.Span
	for i := range 15 {
		l = append(l, api.Span{Service: string(rune('a'+i)) + long(4095), Name: "n"})
	}
	l = append(l, api.Span{Service: long(2000), Name: "n"})
	l[15].Service = long(2000 + n - len(rawBytes(l)))
	return l
}

// filledBySpans has 1024 spans that fill the batch to n bytes by their fields alone.
func filledBySpans(n int) []api.Span {
	l := make([]api.Span, 1024)
	for i := range l {
		l[i] = api.Span{Attrs: slices.Repeat([]api.Attr{tru("", 1)}, 16)}
	}
	left := n - len(rawBytes(l))
	for i := range l {
		// Each of five numbers has up to nine bytes more.
		for _, f := range []*uint64{&l[i].Trace, &l[i].ID, &l[i].Parent, &l[i].Start, &l[i].End} {
			size := min(9, left)
			*f = 1 << (7 * size)
			left -= size
		}
	}
	return l
}

// lists has lists that can be put.
func lists() map[string][]api.Span {
	out := map[string][]api.Span{
		"nil":            nil,
		"none":           {},
		"one":            {good()},
		"twice the same": {good(), good()},
		"three":          {good(), {}, good()},
		"texts turned":   {{Service: "a", Name: "b"}, {Service: "b", Name: "a"}},
		"a Key that was a Name": {
			{Service: "a", Name: "b", Attrs: []api.Attr{num("c", 1), num("a", 2)}},
			{Service: "c", Name: "d", Attrs: []api.Attr{txt("b", "q"), txt("e", "a"), txt("d", "e")}},
			{Service: "q", Name: "q"},
		},
		"127 spans":             make([]api.Span, 127),
		"128 spans":             make([]api.Span, 128),
		"1023 spans":            make([]api.Span, 1023),
		"1024 spans":            make([]api.Span, 1024),
		"128 texts":             fresh(128),
		"129 texts":             fresh(129),
		"4095 texts":            fresh(4095),
		"4096 texts":            fresh(4096),
		"4096 texts, and again": append(fresh(4096), fresh(100)...),
		"65535 bytes":           filled(65535),
		"65536 bytes":           filled(65536),
		"65536 by the table":    filledByTable(65536),
		"65536 by spans":        filledBySpans(65536),
	}
	for why, f := range edges() {
		out[why] = []api.Span{turned(good(), f)}
		out[why+", behind another"] = []api.Span{good(), turned(good(), f)}
		out[why+", ahead of another"] = []api.Span{turned(good(), f), good()}
	}
	for i := range 300 {
		out["noise "+strconv.Itoa(i)] = noise(int64(i))
	}
	return out
}

// short has those of lists that have few bytes.
func short() map[string][]api.Span {
	out := lists()
	for why, l := range out {
		if len(rawBytes(l)) > 400 {
			delete(out, why)
		}
	}
	return out
}

// noise is a list of few sorts of parts, the same one for each seed, so that two of them are often
// the same, or nearly so.
func noise(seed int64) []api.Span {
	r := rand.New(rand.NewSource(seed))
	texts := []string{"", "a", "b", "ab"}
	numbers := []uint64{0, 1, 128}
	values := []api.Value{{Kind: 1}, {Kind: 1, N: -64}, {Kind: 1, N: 64}, {Kind: 2}, {Kind: 2, N: 1}, {Kind: 3}, {Kind: 3, S: "a"}}
	text := func() string { return texts[r.Intn(len(texts))] }
	number := func() uint64 { return numbers[r.Intn(len(numbers))] }
	var l []api.Span
	for range r.Intn(4) {
		s := api.Span{Trace: number(), ID: number(), Parent: number(), Service: text(), Name: text(), Kind: r.Intn(2), Status: r.Intn(2), Start: number(), End: number()}
		for range r.Intn(3) {
			s.Attrs = append(s.Attrs, api.Attr{Key: text(), V: values[r.Intn(len(values))]})
		}
		l = append(l, s)
	}
	return l
}

// same: are they, field by field? (Lists without items may be nil or empty.)
func same(l, m []api.Span) bool {
	return slices.EqualFunc(l, m, func(a, b api.Span) bool {
		p, q := a.Attrs, b.Attrs
		a.Attrs, b.Attrs = nil, nil
		return reflect.DeepEqual(a, b) && slices.Equal(p, q)
	})
}

// copied shares no list with l.
func copied(l []api.Span) []api.Span {
	out := slices.Clone(l)
	for i := range out {
		out[i].Attrs = slices.Clone(out[i].Attrs)
	}
	return out
}

// The calls, by the document's words and the library.

func textsOf(s api.Span) []string {
	l := []string{s.Service, s.Name}
	for _, a := range s.Attrs {
		l = append(l, a.Key)
	}
	return l
}

// tableOf has the texts of spans in the order in which they come up first.
func tableOf(l []api.Span) []string {
	var table []string
	there := map[string]bool{}
	for _, s := range l {
		for _, x := range textsOf(s) {
			if !there[x] {
				there[x] = true
				table = append(table, x)
			}
		}
	}
	return table
}

func uv(n uint64) []byte { return binary.AppendUvarint(nil, n) }

func rawText(s string) []byte { return append(uv(uint64(len(s))), s...) }

func rawTable(l ...string) []byte {
	b := uv(uint64(len(l)))
	for _, s := range l {
		b = append(b, rawText(s)...)
	}
	return b
}

func rawValue(v api.Value) []byte {
	switch v.Kind {
	case 1:
		return append([]byte{1}, binary.AppendVarint(nil, v.N)...)
	case 2:
		return []byte{2, byte(v.N)}
	}
	return append([]byte{3}, rawText(v.S)...)
}

// rawPieces has the bytes of spans, field by field, whatever there may be at most.
func rawPieces(l []api.Span) [][]byte {
	return rawPiecesBy(l, tableOf(l))
}

// rawPiecesBy has them with another table, in which all their texts are.
func rawPiecesBy(l []api.Span, table []string) [][]byte {
	numbers := map[string]int{}
	for i, s := range table {
		numbers[s] = i
	}
	at := func(s string) []byte { return uv(uint64(numbers[s])) }
	out := [][]byte{rawTable(table...), uv(uint64(len(l)))}
	for _, s := range l {
		out = append(out, uv(s.Trace), uv(s.ID), uv(s.Parent), at(s.Service), at(s.Name),
			[]byte{byte(s.Kind)}, []byte{byte(s.Status)}, uv(s.Start), uv(s.End), uv(uint64(len(s.Attrs))))
		for _, a := range s.Attrs {
			out = append(out, at(a.Key), rawValue(a.V))
		}
	}
	return out
}

func rawBytes(l []api.Span) []byte { return slices.Concat(rawPieces(l)...) }

func wantRight(v api.Value) bool {
	return v.Kind == 1 && v.S == "" || v.Kind == 2 && v.S == "" && (v.N == 0 || v.N == 1) || v.Kind == 3 && v.N == 0 && len(v.S) <= 4096
}

func wantPut(l []api.Span) ([]byte, api.Errno) {
	if len(l) > 1024 {
		return nil, api.ErrLong
	}
	texts := map[string]int{}
	for _, s := range l {
		if s.Kind < 0 || s.Kind > 255 || s.Status < 0 || s.Status > 255 {
			return nil, api.ErrArg
		}
		for _, a := range s.Attrs {
			if !wantRight(a.V) {
				return nil, api.ErrArg
			}
		}
		if len(s.Attrs) > 16 {
			return nil, api.ErrLong
		}
		for _, x := range textsOf(s) {
			texts[x]++
			if len(x) > 4096 || len(texts) > 4096 {
				return nil, api.ErrLong
			}
		}
	}
	b := rawBytes(l)
	if len(b) > 65536 {
		return nil, api.ErrLong
	}
	return b, api.OK
}

// cursor goes through bytes; it stops by a panic with an error's number.
type cursor struct {
	b  []byte
	at int
}

func need(right bool, e api.Errno) {
	if !right {
		panic(e)
	}
}

func (c *cursor) octet() byte {
	need(c.at < len(c.b), api.ErrShort)
	c.at++
	return c.b[c.at-1]
}

func (c *cursor) number() uint64 {
	var n uint64
	for i := 0; ; i++ {
		d := c.octet()
		low := uint64(d & 127)
		need(i < 9 || i == 9 && low <= 1, api.ErrForm)
		n += low << (7 * i)
		if d < 128 {
			need(d != 0 || i == 0, api.ErrForm)
			return n
		}
	}
}

func (c *cursor) upTo(most uint64) uint64 {
	n := c.number()
	need(n <= most, api.ErrForm)
	return n
}

func (c *cursor) text() string {
	size := int(c.upTo(4096))
	need(len(c.b)-c.at >= size, api.ErrShort)
	c.at += size
	return string(c.b[c.at-size : c.at])
}

func (c *cursor) value() api.Value {
	switch kind := c.octet(); kind {
	case 1:
		z := c.number()
		n := int64(z / 2)
		if z%2 == 1 {
			n = -n - 1
		}
		return api.Value{Kind: 1, N: n}
	case 2:
		n := c.octet()
		need(n <= 1, api.ErrForm)
		return api.Value{Kind: 2, N: int64(n)}
	default:
		need(kind == 3, api.ErrForm)
		return api.Value{Kind: 3, S: c.text()}
	}
}

func wantGet(b []byte) (l []api.Span, e api.Errno) {
	defer func() {
		if x := recover(); x != nil {
			l, e = nil, x.(api.Errno)
		}
	}()
	need(len(b) <= 65536, api.ErrLong)
	c := &cursor{b: b}
	var table []string
	for range c.upTo(4096) {
		s := c.text()
		need(!slices.Contains(table, s), api.ErrForm)
		table = append(table, s)
	}
	at := func() string {
		n := c.number()
		need(n < uint64(len(table)), api.ErrForm)
		return table[n]
	}
	for range c.upTo(1024) {
		s := api.Span{Trace: c.number(), ID: c.number(), Parent: c.number(), Service: at(), Name: at(),
			Kind: int(c.octet()), Status: int(c.octet()), Start: c.number(), End: c.number()}
		for range c.upTo(16) {
			s.Attrs = append(s.Attrs, api.Attr{Key: at(), V: c.value()})
		}
		l = append(l, s)
	}
	need(c.at == len(b), api.ErrForm)
	need(slices.Equal(table, tableOf(l)), api.ErrForm)
	return l, api.OK
}

// puts asks that Put answers l as the document's words do.
func puts(t *testing.T, why string, l []api.Span) {
	t.Helper()
	keep := copied(l)
	b, e := Put(l)
	want, wantE := wantPut(l)
	if e != wantE || !bytes.Equal(b, want) {
		t.Errorf("P7.1: Put (%s): %.60x (%d), %d, want %.60x (%d), %d", why, b, len(b), e, want, len(want), wantE)
	}
	if !same(l, keep) {
		t.Errorf("R4: Put changed its list (%s)", why)
	}
}

// refusedByPut asks that l is answered by error e and nothing beside it.
func refusedByPut(t *testing.T, why string, l []api.Span, e api.Errno) {
	t.Helper()
	puts(t, why, l)
	if b, got := Put(l); got != e || len(b) != 0 {
		t.Errorf("P7.1: Put (%s): %d bytes, %d, want none, %d", why, len(b), got, e)
	}
}

// gets asks that Get answers b as the document's words do.
func gets(t *testing.T, why string, b []byte) {
	t.Helper()
	keep := slices.Clone(b)
	l, e := Get(b)
	want, wantE := wantGet(b)
	if e != wantE || !same(l, want) {
		t.Errorf("P7.2: Get(%.60x) (%s): %.200v, %d, want %.200v, %d", b, why, l, e, want, wantE)
	}
	if !bytes.Equal(b, keep) {
		t.Errorf("R4: Get changed its bytes (%s)", why)
	}
}

// refused asks that b is answered by error e and nothing beside it.
func refused(t *testing.T, why string, b []byte, e api.Errno) {
	t.Helper()
	gets(t, why, b)
	if l, got := Get(b); got != e || len(l) != 0 {
		t.Errorf("P7.2: Get(%.60x) (%s): %d spans, %d, want none, %d", b, why, len(l), got, e)
	}
}

// known has lists whose bytes are written out by hand.
func known() map[string]struct {
	l []api.Span
	b []byte
} {
	return map[string]struct {
		l []api.Span
		b []byte
	}{
		"the example: of no spans": {nil, []byte{0, 0}},
		"the zero span":            {[]api.Span{{}}, []byte{1, 0, 1, 0, 0, 0, 0, 0, 0, 0, 0, 0, 0}},
		"two zero spans":           {make([]api.Span, 2), []byte{1, 0, 2, 0, 0, 0, 0, 0, 0, 0, 0, 0, 0, 0, 0, 0, 0, 0, 0, 0, 0, 0, 0}},
		"one of each":              {[]api.Span{{Trace: 1, ID: 2, Parent: 3, Service: "s", Name: "n", Kind: 4, Status: 5, Start: 6, End: 7}}, []byte{2, 1, 's', 1, 'n', 1, 1, 2, 3, 0, 1, 4, 5, 6, 7, 0}},
		"bytes of 255":             {[]api.Span{{Trace: 300, Kind: 255, Status: 200, End: 128}}, []byte{1, 0, 1, 172, 2, 0, 0, 0, 0, 255, 200, 0, 128, 1, 0}},
		"the greatest numbers": {
			[]api.Span{{Trace: math.MaxUint64, Parent: math.MaxUint64}},
			slices.Concat([]byte{1, 0, 1}, bytes.Repeat([]byte{255}, 9), []byte{1, 0}, bytes.Repeat([]byte{255}, 9), []byte{1, 0, 0, 0, 0, 0, 0, 0}),
		},
		"a Name that is the Service": {[]api.Span{{Service: "a", Name: "a"}}, []byte{1, 1, 'a', 1, 0, 0, 0, 0, 0, 0, 0, 0, 0, 0}},
		"Service, Name, Keys": {
			[]api.Span{{Service: "c", Name: "b", Attrs: []api.Attr{num("a", -1), tru("b", 1), txt("d", "c"), txt("a", "zz")}}},
			[]byte{4, 1, 'c', 1, 'b', 1, 'a', 1, 'd', 1, 0, 0, 0, 0, 1, 0, 0, 0, 0, 4, 2, 1, 1, 1, 2, 1, 3, 3, 1, 'c', 2, 3, 2, 'z', 'z'},
		},
		"texts of another span": {
			[]api.Span{{Service: "a", Name: "b", Attrs: []api.Attr{num("c", 64)}}, {Service: "c", Name: "d", Attrs: []api.Attr{tru("a", 0), tru("e", 1)}}, {Service: "e", Name: "a"}},
			[]byte{5, 1, 'a', 1, 'b', 1, 'c', 1, 'd', 1, 'e', 3,
				0, 0, 0, 0, 1, 0, 0, 0, 0, 1, 2, 1, 128, 1,
				0, 0, 0, 2, 3, 0, 0, 0, 0, 2, 0, 2, 0, 4, 2, 1,
				0, 0, 0, 4, 0, 0, 0, 0, 0, 0},
		},
	}
}

func TestP7_1PutKnown(t *testing.T) {
	for why, x := range known() {
		if b, e := Put(x.l); e != api.OK || !bytes.Equal(b, x.b) {
			t.Errorf("P7.1: Put (%s): %v, %d, want %v", why, b, e, x.b)
		}
	}
}

func TestP7_1PutAll(t *testing.T) {
	for why, l := range lists() {
		puts(t, why, l)
		if b, e := Put(l); e != api.OK || len(b) == 0 {
			t.Errorf("P7.1: Put (%s): %d bytes, %d", why, len(b), e)
		}
	}
}

// Texts of values are in no table, however often they come up.
func TestP7_1TextsOfValuesAreNotInTheTable(t *testing.T) {
	s := api.Span{Service: "s", Name: "s", Attrs: []api.Attr{txt("s", "v"), txt("s", "v"), txt("s", "s")}}
	b, e := Put([]api.Span{s, s})
	if e != api.OK || !bytes.HasPrefix(b, []byte{1, 1, 's', 2}) || bytes.Count(b, []byte{3, 1, 'v'}) != 4 || bytes.Count(b, []byte{3, 1, 's'}) != 2 {
		t.Errorf("P7.1: Put: %v, %d", b, e)
	}
}

func TestP7_1PutSpansAtTheEdge(t *testing.T) {
	for _, n := range []int{1023, 1024} {
		if b, e := Put(make([]api.Span, n)); e != api.OK || len(b) != 4+10*n {
			t.Errorf("P7.1: Put of %d spans: %d bytes, %d", n, len(b), e)
		}
	}
	for _, n := range []int{1025, 1026, 2048, 5000} {
		refusedByPut(t, strconv.Itoa(n)+" spans", make([]api.Span, n), api.ErrLong)
		// It is asked ahead of what is wrong in a span.
		for why, f := range argWrongs() {
			l := make([]api.Span, n)
			f(&l[0])
			f(&l[n-1])
			refusedByPut(t, strconv.Itoa(n)+" spans, "+why, l, api.ErrLong)
		}
	}
}

func TestP7_1PutEachError(t *testing.T) {
	for want, turns := range map[api.Errno]map[string]turn{api.ErrArg: argWrongs(), api.ErrLong: longWrongs()} {
		for why, f := range turns {
			bad := turned(good(), f)
			refusedByPut(t, why+", alone", []api.Span{bad}, want)
			refusedByPut(t, why+", first", []api.Span{bad, good(), {}}, want)
			refusedByPut(t, why+", amid", []api.Span{good(), bad, good()}, want)
			refusedByPut(t, why+", last", []api.Span{{}, good(), bad}, want)
			refusedByPut(t, why+", of nothing", []api.Span{turned(api.Span{}, f)}, want)
		}
	}
}

// Of two errors in one span ErrArg is told, wherever its attributes stand.
func TestP7_1PutTwoErrorsInOneSpan(t *testing.T) {
	for why, f := range argWrongs() {
		for why2, g := range longWrongs() {
			refusedByPut(t, why+", "+why2, []api.Span{good(), turned(good(), f, g)}, api.ErrArg)
			refusedByPut(t, why2+", "+why, []api.Span{good(), turned(good(), g, f)}, api.ErrArg)
		}
	}
}

// Of errors in two spans that of the earlier one is told.
func TestP7_1PutErrorsSpanBySpan(t *testing.T) {
	for why, f := range argWrongs() {
		for why2, g := range longWrongs() {
			arg, wide := turned(good(), f), turned(good(), g)
			refusedByPut(t, why+", then "+why2, []api.Span{{}, arg, wide}, api.ErrArg)
			refusedByPut(t, why2+", then "+why, []api.Span{{}, wide, arg}, api.ErrLong)
			refusedByPut(t, why2+", far ahead of "+why, []api.Span{wide, good(), {}, good(), arg}, api.ErrLong)
		}
	}
}

func TestP7_1PutTextsAtTheEdge(t *testing.T) {
	for _, n := range []int{4095, 4096} {
		if b, e := Put(fresh(n)); e != api.OK || !bytes.HasPrefix(b, uv(uint64(n))) {
			t.Errorf("P7.1: Put of %d texts: %d bytes, %d", n, len(b), e)
		}
	}
	for why, bad := range map[string]api.Span{
		"as a Service": {Service: "new", Name: "0"},
		"as a Name":    {Service: "0", Name: "new"},
		"as a Key":     {Service: "0", Name: "1", Attrs: []api.Attr{tru("2", 1), tru("new", 0)}},
		"as no byte":   {Service: "0"},
	} {
		l := append(fresh(4096), api.Span{Service: "0", Name: "zz"}, bad)
		if n := len(rawBytes(l)); n > 65536 {
			t.Fatalf("%d bytes: too many to tell the errors apart", n)
		}
		refusedByPut(t, "the 4097th text "+why, l, api.ErrLong)
		ahead := append(fresh(4095), bad)
		if _, e := Put(ahead); e != api.OK {
			t.Errorf("P7.1: Put of the 4096th text %s: %d", why, e)
		}
		for why2, f := range argWrongs() {
			arg := turned(api.Span{Service: "0", Name: "0"}, f)
			arg.Attrs = append(arg.Attrs, tru("2", 1))
			refusedByPut(t, "in one span with the 4097th text "+why+": "+why2, append(fresh(4096), turned(bad, f)), api.ErrArg)
			refusedByPut(t, "behind the 4097th text "+why+": "+why2, append(fresh(4096), bad, arg), api.ErrLong)
		}
	}
	refusedByPut(t, "4097 texts", fresh(4097), api.ErrLong)
	refusedByPut(t, "5000 texts", fresh(5000), api.ErrLong)
}

func TestP7_1PutBytesAtTheEdge(t *testing.T) {
	for why, fill := range map[string]func(n int) []api.Span{"by values": filled, "by the table": filledByTable, "by spans": filledBySpans} {
		for n := 65530; n <= 65536; n++ {
			if b, e := Put(fill(n)); e != api.OK || len(b) != n {
				t.Errorf("P7.1: Put of %d bytes %s: %d bytes, %d", n, why, len(b), e)
			}
		}
		for _, n := range []int{65537, 65538} {
			l := fill(n)
			if got := len(rawBytes(l)); got != n {
				t.Fatalf("%d bytes %s, not %d", got, why, n)
			}
			refusedByPut(t, strconv.Itoa(n)+" bytes "+why, l, api.ErrLong)
		}
	}
}

// What is wrong in a span is told ahead of there being too many bytes, however far behind it stands.
func TestP7_1PutErrorsAheadOfBytes(t *testing.T) {
	wide := slices.Concat(filled(65537), filled(65537), filledByTable(65537))
	refusedByPut(t, "three times too many bytes", wide, api.ErrLong)
	for why, f := range argWrongs() {
		refusedByPut(t, "too many bytes, then "+why, append(slices.Clone(wide), turned(good(), f)), api.ErrArg)
	}
	for why, g := range longWrongs() {
		refusedByPut(t, "too many bytes, then "+why, append(slices.Clone(wide), turned(good(), g)), api.ErrLong)
	}
}

// The widest list that has no error but that of its bytes.
func TestP7_1PutWidest(t *testing.T) {
	s := api.Span{Attrs: slices.Repeat([]api.Attr{txt("", long(4096))}, 16)}
	b, e := Put(slices.Repeat([]api.Span{s}, 1024))
	if e != api.ErrLong || len(b) != 0 {
		t.Errorf("P7.1: Put of the widest list: %d bytes, %d", len(b), e)
	}
}

func TestP7_2GetKnown(t *testing.T) {
	for why, x := range known() {
		if l, e := Get(x.b); e != api.OK || !same(l, x.l) {
			t.Errorf("P7.2: Get (%s): %v, %d, want %v", why, l, e, x.l)
		}
	}
}

func TestP7_2GetAll(t *testing.T) {
	for why, l := range lists() {
		if m, e := Get(rawBytes(l)); e != api.OK || !same(l, m) {
			t.Errorf("P7.2: Get (%s): %.200v, %d, want %.200v", why, m, e, l)
		}
	}
}

func TestP7_2GetNoBytes(t *testing.T) {
	refused(t, "nil", nil, api.ErrShort)
	refused(t, "no byte", []byte{}, api.ErrShort)
	refused(t, "a table alone", []byte{0}, api.ErrShort)
}

func TestP7_2GetTooLong(t *testing.T) {
	for why, fill := range map[string]func(n int) []api.Span{"values": filled, "the table": filledByTable, "spans": filledBySpans} {
		if l, e := Get(rawBytes(fill(65536))); e != api.OK || !same(l, fill(65536)) {
			t.Errorf("P7.2: Get of 65536 bytes by %s: %d", why, e)
		}
		refused(t, "65537 bytes, else right, by "+why, rawBytes(fill(65537)), api.ErrLong)
	}
	// Asked ahead of all else, whatever the bytes are.
	for _, n := range []int{65537, 65538, 1 << 17, 1 << 20} {
		for why, head := range map[string][]byte{"nothing": nil, "no spans": {0, 0}, "a wrong number": {128, 0}, "too many texts": {255, 255, 1}} {
			for _, c := range []byte{0, 1, 128, 255} {
				refused(t, "too many bytes, "+why, append(slices.Clone(head), bytes.Repeat([]byte{c}, n-len(head))...), api.ErrLong)
			}
		}
	}
	refused(t, "65536 bytes of 0", make([]byte, 65536), api.ErrForm)
	refused(t, "65536 bytes of 128", bytes.Repeat([]byte{128}, 65536), api.ErrForm)
}

func TestP7_2GetCutAnywhere(t *testing.T) {
	for why, l := range lists() {
		b := rawBytes(l)
		for k := range b {
			// Of long ones each place near both ends, and some between.
			if k > 300 && k < len(b)-50 && k%1499 != 0 {
				continue
			}
			// Cut by its end alone, or with nothing to spare.
			if m, e := Get(b[:k]); e != api.ErrShort || len(m) != 0 {
				t.Fatalf("P7.2: Get of the first %d bytes (%s): %d spans, %d", k, why, len(m), e)
			}
			if m, e := Get(b[:k:k]); e != api.ErrShort || len(m) != 0 {
				t.Fatalf("P7.2: Get of the first %d bytes, none behind (%s): %d spans, %d", k, why, len(m), e)
			}
		}
	}
}

func TestP7_2GetBytesLeft(t *testing.T) {
	for why, l := range short() {
		for _, behind := range [][]byte{{0}, {1}, {128}, {255}, {0, 0}, {0, 0, 0, 0, 0, 0, 0, 0, 0, 0}, rawBytes(l), rawBytes([]api.Span{good()})} {
			refused(t, why+", and bytes left", slices.Concat(rawBytes(l), behind), api.ErrForm)
		}
	}
}

// varints has bytes that are no number, with their errors.
func varints() map[string]struct {
	b string
	e api.Errno
} {
	nine := strings.Repeat("\x80", 9)
	return map[string]struct {
		b string
		e api.Errno
	}{
		"no byte":                     {"", api.ErrShort},
		"it ends":                     {"\x80", api.ErrShort},
		"it ends at two":              {"\xff\x81", api.ErrShort},
		"it ends at nine":             {nine, api.ErrShort},
		"it ends at ten":              {nine + "\x81", api.ErrShort},
		"its last byte is 0":          {"\x80\x00", api.ErrForm},
		"its third byte is 0":         {"\xff\x80\x00", api.ErrForm},
		"above 2^64 - 1":              {nine + "\x02", api.ErrForm},
		"above 2^64 - 1, and it ends": {nine + "\x82", api.ErrForm},
		"eleven bytes":                {nine + "\x81\x01", api.ErrForm},
	}
}

// greats has numbers above n, those among them that would be small if they went round.
func greats(n uint64) []uint64 {
	return []uint64{n + 1, n + 2, 2*n + 1, 256 + n, 1 << 16, 1 << 31, 1<<31 + 1, 1 << 32, 1<<32 + 1, 1<<32 + n, 1 << 63, 1<<63 + 1, math.MaxUint64 - 1, math.MaxUint64}
}

// The places of pieces (see rawPieces) of one span with attributes.
const (
	atTable = iota
	atSpans
	atTrace
	atID
	atParent
	atService
	atName
	atKind
	atStatus
	atStart
	atEnd
	atAttrs
	atKey
	atValue
)

// sample is a list whose pieces stand as those places say.
func sample() []api.Span { return []api.Span{good()} }

// spoilt asks that the sample, with other bytes for a piece, is answered by an error: e, whatever
// stands behind, unless nothing may.
func spoilt(t *testing.T, why string, at int, other []byte, e api.Errno) {
	t.Helper()
	pieces := rawPieces(sample())
	head := slices.Concat(slices.Concat(pieces[:at]...), other)
	why = "piece " + strconv.Itoa(at) + ": " + why
	refused(t, why+", and the end", head, e)
	if e == api.ErrShort {
		return
	}
	refused(t, why, slices.Concat(head, slices.Concat(pieces[at+1:]...)), e)
	refused(t, why+", and wrong ones behind", slices.Concat(head, []byte{128, 0}), e)
	refused(t, why+", and a cut behind", slices.Concat(head, []byte{128}), e)
}

// numberPlaces has the places of all numbers.
func numberPlaces() []int {
	return []int{atSpans, atTrace, atID, atParent, atService, atName, atStart, atEnd, atAttrs, atKey, atKey + 2, atKey + 4}
}

func TestP7_2GetNumberErrors(t *testing.T) {
	for _, at := range numberPlaces() {
		for why, x := range varints() {
			spoilt(t, why, at, []byte(x.b), x.e)
		}
	}
}

func TestP7_2GetByteLacks(t *testing.T) {
	spoilt(t, "no Kind", atKind, nil, api.ErrShort)
	spoilt(t, "no Status", atStatus, nil, api.ErrShort)
	for n := range 256 {
		pieces := rawPieces(sample())
		pieces[atKind], pieces[atStatus] = []byte{byte(n)}, []byte{byte(255 - n)}
		l, e := Get(slices.Concat(pieces...))
		if e != api.OK || len(l) != 1 || l[0].Kind != n || l[0].Status != 255-n {
			t.Errorf("P7.2: Get of Kind %d: %v, %d", n, l, e)
		}
	}
}

func TestP7_2GetTextsNotThere(t *testing.T) {
	for _, at := range []int{atService, atName, atKey, atKey + 2, atKey + 4} {
		// The table has five.
		for _, n := range greats(4) {
			spoilt(t, "a number of a text: "+strconv.FormatUint(n, 10), at, uv(n), api.ErrForm)
		}
	}
	// A table of none, and one that lacks its last text.
	refused(t, "no text", []byte{0, 1, 0, 0, 0, 0, 0, 0, 0, 0, 0, 0}, api.ErrForm)
	for why, l := range short() {
		if table := tableOf(l); len(table) > 0 {
			rest := slices.Concat(rawPieces(l)[1:]...)
			refused(t, why+", a table without its last text", append(rawTable(table[:len(table)-1]...), rest...), api.ErrForm)
		}
	}
}

func TestP7_2GetTooManySpans(t *testing.T) {
	for _, n := range greats(1024) {
		spoilt(t, strconv.FormatUint(n, 10)+" spans", atSpans, uv(n), api.ErrForm)
		refused(t, "none of so many spans", append([]byte{0}, uv(n)...), api.ErrForm)
	}
	if l, e := Get(rawBytes(make([]api.Span, 1024))); e != api.OK || len(l) != 1024 {
		t.Errorf("P7.2: Get of 1024 spans: %d, %d", len(l), e)
	}
	refused(t, "1025 spans, all there", rawBytes(make([]api.Span, 1025)), api.ErrForm)
	refused(t, "1024 spans, one isn't there", append([]byte{1, 0, 128, 8}, make([]byte, 1023*10)...), api.ErrShort)
	refused(t, "1024 spans, none there", []byte{0, 128, 8}, api.ErrShort)
}

func TestP7_2GetTooManyAttrs(t *testing.T) {
	for _, n := range greats(16) {
		spoilt(t, strconv.FormatUint(n, 10)+" attributes", atAttrs, uv(n), api.ErrForm)
	}
	for n := range 17 {
		l := []api.Span{turned(good(), with(many(n)...))}
		if m, e := Get(rawBytes(l)); e != api.OK || !same(l, m) {
			t.Errorf("P7.2: Get of %d attributes: %v, %d", n, m, e)
		}
	}
	for _, n := range []int{17, 18, 127, 128, 256, 1000} {
		refused(t, strconv.Itoa(n)+" attributes, all there", rawBytes([]api.Span{turned(good(), with(many(n)...))}), api.ErrForm)
	}
	refused(t, "16 attributes, one isn't there", slices.Concat(rawTable("s", "n", "k"), []byte{1, 0, 0, 0, 0, 1, 0, 0, 0, 0, 16}, bytes.Repeat([]byte{2, 2, 1}, 15)), api.ErrShort)
	spoilt(t, "16 attributes, none there", atAttrs, []byte{16}, api.ErrShort)
}

func TestP7_2GetValueErrors(t *testing.T) {
	for _, at := range []int{atValue, atValue + 2, atValue + 4} {
		spoilt(t, "no byte", at, nil, api.ErrShort)
		for _, kind := range []byte{0, 4, 5, 127, 128, 129, 255} {
			spoilt(t, "a Kind that is none", at, []byte{kind}, api.ErrForm)
		}
		for why, x := range varints() {
			spoilt(t, "a number: "+why, at, []byte("\x01"+x.b), x.e)
			spoilt(t, "a text's length: "+why, at, []byte("\x03"+x.b), x.e)
		}
		spoilt(t, "a truth that lacks", at, []byte{2}, api.ErrShort)
		for _, n := range []byte{2, 3, 128, 255} {
			spoilt(t, "a truth that is none", at, []byte{2, n}, api.ErrForm)
		}
		for _, n := range greats(4096) {
			spoilt(t, "a text that is too long", at, append([]byte{3}, uv(n)...), api.ErrForm)
			spoilt(t, "a text that is too long", at, slices.Concat([]byte{3}, uv(n), []byte(long(4097))), api.ErrForm)
		}
		for _, n := range []int{1, 2, 127, 128, 4096} {
			spoilt(t, "a text that isn't whole", at, append([]byte{3}, rawText(long(n))[:len(rawText(long(n)))-1]...), api.ErrShort)
		}
	}
}

// strtab.Read's errors: of the count, and of the first text and a later one.
func TestP7_2GetTableErrors(t *testing.T) {
	for why, x := range varints() {
		spoilt(t, "how many texts: "+why, atTable, []byte(x.b), x.e)
		spoilt(t, "the first length: "+why, atTable, []byte("\x05"+x.b), x.e)
		spoilt(t, "a later length: "+why, atTable, []byte("\x05\x03web\x03get"+x.b), x.e)
	}
	for _, n := range greats(4096) {
		spoilt(t, "too many texts", atTable, uv(n), api.ErrForm)
		spoilt(t, "a text that is too long", atTable, append([]byte{5}, uv(n)...), api.ErrForm)
		spoilt(t, "a text that is too long", atTable, slices.Concat([]byte{5, 1, 'a'}, uv(n), []byte(long(4097))), api.ErrForm)
	}
	spoilt(t, "a text that isn't whole", atTable, []byte("\x05\x03we"), api.ErrShort)
	spoilt(t, "a later text that isn't whole", atTable, []byte("\x02\x01a\x04web"), api.ErrShort)
	spoilt(t, "a text that was there before", atTable, rawTable("web", "get", "path", "code", "web"), api.ErrForm)
	spoilt(t, "a text that was there before", atTable, rawTable("web", "web", "path", "code", "cached"), api.ErrForm)
	spoilt(t, "no byte twice", atTable, rawTable("web", "", ""), api.ErrForm)
	refused(t, "4097 texts, all there and named", rawBytes(fresh(4097)), api.ErrForm)
}

// renumbered is one span with a Service, a Name and Keys by these numbers.
func renumbered(table []string, numbers ...byte) []byte {
	b := slices.Concat(rawTable(table...), []byte{1, 9, 9, 9, numbers[0], numbers[1], 0, 0, 9, 9, byte(len(numbers) - 2)})
	for _, n := range numbers[2:] {
		b = append(b, n, 2, 1)
	}
	return b
}

func TestP7_2GetTableIsNotThatOfTheSpans(t *testing.T) {
	three := []string{"a", "b", "c"}
	for _, numbers := range [][]byte{{0, 1, 2}, {0, 0, 1, 2}, {0, 1, 0, 1, 2, 2, 0}, {0, 0, 0, 1, 1, 2}} {
		if l, e := Get(renumbered(three, numbers...)); e != api.OK || len(l) != 1 {
			t.Errorf("P7.2: Get of texts %v: %v, %d", numbers, l, e)
		}
	}
	for _, numbers := range [][]byte{
		{0, 1}, {0, 0}, {0, 1, 1, 0}, {1, 2}, {0, 2}, // one that no span names
		{1, 0, 2}, {0, 2, 1}, {2, 1, 0}, {1, 2, 0}, {2, 0, 1}, // another order
		{0, 2, 1, 2}, {1, 0, 1, 2}, {2, 0, 1, 2}, {0, 0, 2, 1, 2}, // another order, that goes on as if it weren't
	} {
		b := renumbered(three, numbers...)
		refused(t, "a table that isn't the spans'", b, api.ErrForm)
		// It is asked at the end alone: what is wrong behind is told ahead of it.
		for k := range b {
			refused(t, "a table that isn't the spans', and a cut", b[:k], api.ErrShort)
		}
		refused(t, "a table that isn't the spans', and a byte left", append(b, 0), api.ErrForm)
	}
	for _, n := range []int{1, 2, 4096} {
		var l []string
		for i := range n {
			l = append(l, strconv.Itoa(i))
		}
		refused(t, "texts of no span", append(rawTable(l...), 0), api.ErrForm)
		refused(t, "texts of no span, and a cut", rawTable(l...), api.ErrShort)
	}
	refused(t, "one text of no span", []byte{1, 1, 'a', 0}, api.ErrForm)
	refused(t, "no byte, of no span", []byte{1, 0, 0}, api.ErrForm)
	// The text is there as a value, not in a field.
	refused(t, "a text of a value", slices.Concat(rawTable("a", "v"), []byte{1, 0, 0, 0, 0, 0, 0, 0, 0, 0, 1, 0, 3, 1, 'v'}), api.ErrForm)
}

// Tables of all kinds with two texts turned round, or with one more, at each place.
func TestP7_2GetOtherTables(t *testing.T) {
	bad := func(why string, l []api.Span, table []string) {
		t.Helper()
		if m, e := Get(slices.Concat(rawPiecesBy(l, table)...)); e != api.ErrForm || len(m) != 0 {
			t.Errorf("P7.2: Get (%s): %d spans, %d", why, len(m), e)
		}
	}
	all := short()
	for _, n := range []int{127, 128, 129, 4095} {
		all[strconv.Itoa(n)+" texts"] = fresh(n)
	}
	for why, l := range all {
		table := tableOf(l)
		for i := range len(table) + 1 {
			// Of great ones each place near both ends, and some between.
			if i > 30 && i < len(table)-30 && i%97 != 0 {
				continue
			}
			bad(why+", one more text", l, slices.Insert(slices.Clone(table), i, "more"))
			if i+1 < len(table) {
				other := slices.Clone(table)
				other[i], other[i+1] = other[i+1], other[i]
				bad(why+", two turned round", l, other)
			}
		}
	}
}

// All orders and choices of few texts over two spans: few of them are right.
func TestP7_2GetAllOrders(t *testing.T) {
	right := 0
	for n := range 4 * 4 * 4 * 4 * 4 {
		b := rawTable("a", "b", "c", "d")
		b = append(b, 2, 1, 1, 1, byte(n%4), byte(n/4%4), 0, 0, 1, 1, 1, byte(n/16%4), 2, 0)
		b = append(b, 1, 1, 1, byte(n/64%4), byte(n/256%4), 0, 0, 1, 1, 0)
		gets(t, "texts by other numbers", b)
		if _, e := Get(b); e == api.OK {
			right++
		}
	}
	// Of five places one is a text that came up already: at place k from 1 on, one of k.
	if right != 1+2+3+4 {
		t.Errorf("P7.2: %d orders are right, want 10", right)
	}
}

// Each byte turned into each other one, left out, and doubled.
func TestP7_2GetSpoiltAnywhere(t *testing.T) {
	for _, l := range [][]api.Span{nil, {{}}, sample(), noise(3), {good(), {Service: "get", Name: "new", Attrs: []api.Attr{txt("web", "web"), num("x", 1<<40)}}, good()}} {
		b := rawBytes(l)
		for i := range b {
			for c := range 256 {
				other := slices.Clone(b)
				other[i] = byte(c)
				gets(t, "a byte turned", other)
			}
			gets(t, "a byte left out", slices.Delete(slices.Clone(b), i, i+1))
			gets(t, "a byte doubled", slices.Insert(slices.Clone(b), i, b[i]))
		}
	}
}

func TestP7_2GetNoise(t *testing.T) {
	r := rand.New(rand.NewSource(7))
	ok := 0
	for range 100000 {
		// A small table, a small count, and small numbers most of the time.
		b := slices.Concat(rawTable([]string{"", "a", "b"}[:r.Intn(4)]...), []byte{byte(r.Intn(3))}, make([]byte, r.Intn(40)))
		for i := 4; i < len(b); i++ {
			b[i] = byte(r.Intn(3))
			if r.Intn(40) == 0 {
				b[i] = byte(r.Intn(256))
			}
		}
		gets(t, "noise", b)
		if _, e := Get(b); e == api.OK {
			ok++
		}
	}
	if ok < 100 {
		t.Errorf("%d alone could be read", ok)
	}
}

func TestP7_3PutIsGot(t *testing.T) {
	for why, l := range lists() {
		b, e := Put(l)
		if e != api.OK {
			t.Errorf("P7.3: Put (%s): %d", why, e)
		}
		if m, e := Get(b); e != api.OK || !same(l, m) {
			t.Errorf("P7.3: Get of what was put (%s): %.200v, %d, want %.200v", why, m, e, l)
		}
	}
}

// What can be got is just what is put.
func TestP7_3GotIsPut(t *testing.T) {
	for why, l := range lists() {
		b := rawBytes(l)
		m, e := Get(b)
		if again, e2 := Put(m); e != api.OK || e2 != api.OK || !bytes.Equal(again, b) {
			t.Errorf("P7.3: Put of what was got (%s): %.60x, %d, %d, want %.60x", why, again, e, e2, b)
		}
	}
}

func TestP7_3SameBytesJustIfTheSame(t *testing.T) {
	var l [][]api.Span
	var bs [][]byte
	for _, x := range short() {
		b, _ := Put(x)
		l, bs = append(l, x), append(bs, b)
	}
	pairs := 0
	for i := range l {
		for j := range i {
			if same(l[i], l[j]) != bytes.Equal(bs[i], bs[j]) {
				t.Errorf("P7.3: %.200v and %.200v: the same bytes are %v", l[i], l[j], bytes.Equal(bs[i], bs[j]))
			}
			if same(l[i], l[j]) {
				pairs++
			}
		}
	}
	if pairs < 10 {
		t.Errorf("only %d pairs are the same", pairs)
	}
}

// Lists that are alike but for one part.
func TestP7_3NearlyTheSame(t *testing.T) {
	near := map[string]turn{
		"Trace":           func(s *api.Span) { s.Trace++ },
		"ID":              func(s *api.Span) { s.ID++ },
		"Parent":          func(s *api.Span) { s.Parent++ },
		"Service":         func(s *api.Span) { s.Service += "x" },
		"Name":            func(s *api.Span) { s.Name += "x" },
		"both turned":     func(s *api.Span) { s.Service, s.Name = s.Name, s.Service },
		"Kind":            func(s *api.Span) { s.Kind++ },
		"Status":          func(s *api.Span) { s.Status++ },
		"Start":           func(s *api.Span) { s.Start++ },
		"End":             func(s *api.Span) { s.End++ },
		"one less":        func(s *api.Span) { s.Attrs = s.Attrs[:2] },
		"a Key":           func(s *api.Span) { s.Attrs[2].Key += "x" },
		"a value's Kind":  func(s *api.Span) { s.Attrs[2].V.Kind = 1 },
		"a number":        func(s *api.Span) { s.Attrs[1].V.N = -s.Attrs[1].V.N },
		"a truth":         func(s *api.Span) { s.Attrs[2].V.N = 0 },
		"a text":          func(s *api.Span) { s.Attrs[0].V.S += "x" },
		"the order":       func(s *api.Span) { s.Attrs[0], s.Attrs[1] = s.Attrs[1], s.Attrs[0] },
		"values turned":   func(s *api.Span) { s.Attrs[0].V, s.Attrs[1].V = s.Attrs[1].V, s.Attrs[0].V },
		"nothing but nil": func(s *api.Span) { s.Attrs = nil },
	}
	told := map[string]string{}
	for why, f := range near {
		for _, l := range [][]api.Span{{turned(good(), f)}, {good(), turned(good(), f)}, {turned(good(), f), good()}} {
			b, e := Put(l)
			if other, there := told[string(b)]; there || e != api.OK {
				t.Errorf("P7.3: Put (%s): %d, and the bytes of (%s)", why, e, other)
			}
			told[string(b)] = why
		}
	}
	empty := []api.Span{{Attrs: []api.Attr{}}}
	a, _ := Put(empty)
	b, _ := Put([]api.Span{{}})
	if !bytes.Equal(a, b) {
		t.Errorf("R3: lists without items aren't the same, nil and empty: %v, %v", a, b)
	}
}

// R4: what is handed in stays as it is, and behind the ends of its lists too.
func TestR4HandedInStays(t *testing.T) {
	for why, l := range lists() {
		room := append(copied(l), good())
		for i := range room {
			room[i].Attrs = append(room[i].Attrs, num("zz", 9))
			room[i].Attrs = room[i].Attrs[:len(room[i].Attrs)-1]
		}
		in := room[:len(l)]
		b, _ := Put(in)
		wide := append(slices.Clone(b), 77, 78, 79)
		Get(wide[:len(b)])
		if !same(in, l) || !same(room[len(l):], []api.Span{good()}) {
			t.Errorf("R4: Put changed what was handed in (%s)", why)
		}
		for i := range room {
			n := len(room[i].Attrs)
			if room[i].Attrs[:n+1][n] != num("zz", 9) {
				t.Errorf("R4: Put wrote behind attributes (%s)", why)
			}
		}
		if !bytes.Equal(wide, append(rawBytes(l), 77, 78, 79)) {
			t.Errorf("R4: Get changed what was handed in (%s)", why)
		}
	}
}

// R4: what Put tells shares no memory with its list, nor with what it tells again.
func TestR4PutIsTheCallers(t *testing.T) {
	for why, l := range short() {
		want := rawBytes(l)
		in := copied(l)
		one, _ := Put(in)
		two, _ := Put(in)
		for i := range one {
			one[i] = ^one[i]
		}
		_ = append(one, 1, 2, 3)
		for i := range in {
			clear(in[i].Attrs)
		}
		clear(in)
		if !bytes.Equal(two, want) {
			t.Errorf("R4: (%s) what Put told was changed with another", why)
		}
	}
}

// R4: what Get tells shares no memory with the bytes, nor with what it tells again, and no two
// lists of it share any.
func TestR4GotIsTheCallers(t *testing.T) {
	for why, l := range short() {
		b := rawBytes(l)
		one, _ := Get(b)
		two, _ := Get(b)
		for i := range one {
			clear(one[i].Attrs)
			_ = append(one[i].Attrs, num("zz", 9), num("yy", 8))
			if rest := one[i+1:]; !same(rest, l[i+1:]) {
				t.Errorf("R4: (%s) a span's attributes lie in another's", why)
			}
		}
		clear(one)
		_ = append(one, good())
		if !bytes.Equal(b, rawBytes(l)) {
			t.Errorf("R4: (%s) changing what Get told changed the bytes", why)
		}
		for i := range b {
			b[i] = 'z'
		}
		if !same(two, l) {
			t.Errorf("R4: (%s) what Get told was changed with another, or with the bytes", why)
		}
	}
}

// R6: a call answers the same whatever was called between.
func TestR6NothingIsKept(t *testing.T) {
	want := rawBytes(sample())
	for why, l := range lists() {
		b, _ := Put(l)
		Put(append(copied(l), api.Span{Kind: -1}))
		Get(b)
		Get(b[:len(b)-1])
		Get(append(slices.Clone(b), 0))
		b, e := Put(sample())
		m, e2 := Get(want)
		if e != api.OK || e2 != api.OK || !bytes.Equal(b, want) || !same(m, sample()) {
			t.Fatalf("R6: behind (%s) the answers are others", why)
		}
	}
}

func FuzzGet(f *testing.F) {
	for _, l := range short() {
		f.Add(rawBytes(l))
	}
	for _, x := range varints() {
		f.Add([]byte(x.b))
	}
	f.Fuzz(func(t *testing.T, b []byte) {
		gets(t, "fuzz", b)
		if l, e := Get(b); e == api.OK {
			if again, e := Put(l); e != api.OK || !bytes.Equal(again, b) {
				t.Errorf("Put(Get(%x)): %x, %d", b, again, e)
			}
		}
	})
}

func FuzzPut(f *testing.F) {
	f.Add(uint64(1), uint64(2), uint64(3), "web", "get", 1, 2, uint64(5), uint64(4), "a", "web", 1, int64(1), "")
	f.Add(uint64(0), uint64(1<<63), uint64(0), "", "\xff", 255, 256, uint64(0), uint64(1), "", "", 3, int64(0), "x")
	f.Fuzz(func(t *testing.T, trace, id, parent uint64, service, name string, kind, status int, start, end uint64, key, key2 string, vkind int, n int64, text string) {
		s := api.Span{Trace: trace, ID: id, Parent: parent, Service: service, Name: name, Kind: kind, Status: status, Start: start, End: end,
			Attrs: []api.Attr{{Key: key, V: api.Value{Kind: vkind, N: n, S: text}}, num(key2, n), txt(key, text)}}
		for _, l := range [][]api.Span{{s}, {good(), s}, {s, good(), s}} {
			puts(t, "fuzz", l)
			if b, e := Put(l); e == api.OK {
				if m, e := Get(b); e != api.OK || !same(l, m) {
					t.Errorf("Get(Put(%v)): %v, %d", l, m, e)
				}
			}
		}
	})
}
