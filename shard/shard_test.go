package shard

import (
	"encoding/binary"
	"math"
	"math/rand"
	"reflect"
	"slices"
	"strconv"
	"strings"
	"testing"

	"tallyroom/api"
	"tallyroom/digest"
	"tallyroom/span"
)

const (
	end    = math.MaxUint64
	most   = 1 << 62 // of a gap, of an End, and of bytes
	many   = 65536   // the most spans
	little = 66      // the size of one without padding
)

// one is a span of the least size that the tests have.
func one(trace, id, end uint64) api.Span {
	return api.Span{Trace: trace, ID: id, Service: "s", Name: "n", End: end}
}

// wide is one with a size.
func wide(trace, id, end uint64, size int) api.Span {
	s := one(trace, id, end)
	s.Name = strings.Repeat("n", size-little+1)
	return s
}

// from is one with a parent: of two of one trace and ID the one with the lesser parent is preferred, whatever their Ends.
func from(parent uint64, s api.Span) api.Span {
	s.Parent = parent
	return s
}

// with is one with attributes.
func with(s api.Span, l ...api.Attr) api.Span {
	s.Attrs = l
	return s
}

func textAttr(key, text string) api.Attr {
	return api.Attr{Key: key, V: api.Value{Kind: api.KText, S: text}}
}

func intAttr(key string, n int64) api.Attr {
	return api.Attr{Key: key, V: api.Value{Kind: api.KInt, N: n}}
}

// like is whether two spans have the same in them.
func like(a, b api.Span) bool {
	if !slices.Equal(a.Attrs, b.Attrs) {
		return false
	}
	a.Attrs, b.Attrs = nil, nil
	return reflect.DeepEqual(a, b)
}

func likeAll(a, b []api.Span) bool { return slices.EqualFunc(a, b, like) }

func clones(l []api.Span) []api.Span {
	out := slices.Clone(l)
	for i := range out {
		out[i].Attrs = slices.Clone(out[i].Attrs)
	}
	return out
}

// plain is the shard by the document's words: the spans that wait stand in a list that is gone through, and all else is
// reckoned from them when it is asked.
type plain struct {
	gap          uint64
	spans, bytes int
	list         []api.Span
}

func sizeOf(s api.Span) int {
	texts := []string{s.Service, s.Name}
	for _, a := range s.Attrs {
		texts = append(texts, a.Key, a.V.S)
	}
	return 64 + 16*len(s.Attrs) + len(strings.Join(texts, ""))
}

func (p *plain) held() (spans, bytes int) {
	for _, s := range p.list {
		spans, bytes = spans+1, bytes+sizeOf(s)
	}
	return spans, bytes
}

func (p *plain) traces() []uint64 {
	var l []uint64
	for _, s := range p.list {
		l = append(l, s.Trace)
	}
	slices.Sort(l)
	return slices.Compact(l)
}

func (p *plain) deadline(trace uint64) (at uint64, there bool) {
	for _, s := range p.list {
		if s.Trace == trace {
			at, there = max(at, s.End+p.gap), true
		}
	}
	return at, there
}

func (p *plain) due(mark uint64) []uint64 {
	at := map[uint64]uint64{}
	for _, s := range p.list {
		at[s.Trace] = max(at[s.Trace], s.End+p.gap)
	}
	var l []uint64
	for trace := range at {
		if at[trace] <= mark {
			l = append(l, trace)
		}
	}
	slices.SortFunc(l, func(a, b uint64) int {
		if at[a] < at[b] || at[a] == at[b] && a < b {
			return -1
		}
		return 1
	})
	return l
}

func (p *plain) take(trace uint64) (taken []api.Span, there bool) {
	var left []api.Span
	for _, s := range p.list {
		if s.Trace == trace {
			taken, there = append(taken, s), true
		} else {
			left = append(left, s)
		}
	}
	p.list = left
	slices.SortFunc(taken, span.Compare)
	return taken, there
}

func (p *plain) add(s api.Span) Fate {
	var f Fate
	i := slices.IndexFunc(p.list, func(x api.Span) bool { return x.Trace == s.Trace && x.ID == s.ID })
	switch {
	case i < 0:
		p.list = append(p.list, s)
	case like(digest.Prefer(p.list[i], s), p.list[i]):
		f.Twice = append(f.Twice, s)
	default:
		f.Twice = append(f.Twice, p.list[i])
		p.list[i] = s
	}
	for {
		spans, bytes := p.held()
		if spans <= p.spans && bytes <= p.bytes {
			return f
		}
		gone, _ := p.take(p.due(end)[0])
		f.Gone = append(f.Gone, gone...)
	}
}

func made(t *testing.T, gap uint64, spans, bytes int) (*Shard, *plain) {
	t.Helper()
	h, e := New(gap, spans, bytes)
	if e != api.OK || h == nil {
		t.Fatalf("P15.1: New(%d, %d, %d) = %v, %d", gap, spans, bytes, h, e)
	}
	return h, &plain{gap: gap, spans: spans, bytes: bytes}
}

// roomy is one in which none has to go, by far.
func roomy(t *testing.T, gap uint64) (*Shard, *plain) {
	t.Helper()
	return made(t, gap, many, most)
}

// strangers are traces, and marks, that the tests ask for beside those that are there.
var strangers = []uint64{0, 1, 2, 3, 1 << 32, 1<<62 - 1, 1 << 62, 1<<63 - 1, 1 << 63, 1<<63 + 1, end - 1, end}

// check asks for all that a shard tells and leaves as it is.
func check(t *testing.T, what string, h *Shard, p *plain) {
	t.Helper()
	spans, bytes := h.Held()
	if n, b := p.held(); spans != n || bytes != b || spans > p.spans || bytes > p.bytes {
		t.Errorf("%s: Held() = %d, %d, want %d, %d, and at most %d, %d", what, spans, bytes, n, b, p.spans, p.bytes)
	}
	traces := p.traces()
	if l := h.Traces(); !slices.Equal(l, traces) {
		t.Errorf("%s: Traces() = %d, want %d", what, l, traces)
	}
	marks := slices.Clone(strangers)
	for _, trace := range slices.Concat(traces, strangers) {
		at, there := h.Deadline(trace)
		want, wantThere := p.deadline(trace)
		if at != want || there != wantThere {
			t.Errorf("%s: Deadline(%d) = %d, %v, want %d, %v", what, trace, at, there, want, wantThere)
		}
		marks = append(marks, want-1, want, want+1)
	}
	for _, mark := range marks {
		if l, want := h.Due(mark), p.due(mark); !slices.Equal(l, want) {
			t.Errorf("%s: Due(%d) = %d, want %d", what, mark, l, want)
		}
	}
}

// tell adds a span to both, and holds what is told against one another.
func tell(t *testing.T, what string, h *Shard, p *plain, s api.Span) Fate {
	t.Helper()
	want := p.add(s)
	f, e := h.Add(s)
	if e != api.OK || !likeAll(f.Twice, want.Twice) || !likeAll(f.Gone, want.Gone) {
		t.Errorf("%s: Add(%v) = %v, %d, want %v; at most %d, %d", what, s, f, e, want, p.spans, p.bytes)
	}
	return f
}

// takeOff takes a trace of both.
func takeOff(t *testing.T, what string, h *Shard, p *plain, trace uint64) []api.Span {
	t.Helper()
	want, wantThere := p.take(trace)
	l, there := h.Take(trace)
	if there != wantThere || !likeAll(l, want) {
		t.Errorf("%s: Take(%d) = %v, %v, want %v, %v", what, trace, l, there, want, wantThere)
	}
	return l
}

// follow adds spans one by one, and checks behind each.
func follow(t *testing.T, what string, h *Shard, p *plain, l ...api.Span) {
	t.Helper()
	check(t, what+": at first", h, p)
	for i, s := range l {
		tell(t, what, h, p, s)
		check(t, what+": behind "+strconv.Itoa(i), h, p)
	}
}

// takeAll takes all that is there, trace by trace.
func takeAll(t *testing.T, what string, h *Shard, p *plain) {
	t.Helper()
	for _, trace := range p.traces() {
		takeOff(t, what, h, p, trace)
		check(t, what+": one taken", h, p)
	}
	if spans, bytes := h.Held(); spans != 0 || bytes != 0 || len(h.Traces()) != 0 {
		t.Errorf("%s: all taken: Held() = %d, %d, Traces() = %d", what, spans, bytes, h.Traces())
	}
}

// kinds is what noise is made of.
type kinds struct {
	traces, ids int
	ends        uint64
	wide        int // how far above the least size
}

// noise is a span of few kinds: of one trace and ID they differ in all that span.Compare looks at.
func (k kinds) noise(r *rand.Rand) api.Span {
	s := api.Span{
		Trace: 1 + uint64(r.Intn(k.traces)), ID: 1 + uint64(r.Intn(k.ids)), Parent: uint64(r.Intn(3)),
		Service: "ab"[r.Intn(2):], Name: "n" + strings.Repeat("m", r.Intn(k.wide+1)),
		Kind: r.Intn(5), Status: r.Intn(3), End: r.Uint64() % (k.ends + 1),
	}
	s.Start = s.End / (1 + r.Uint64()%3)
	for i := range r.Intn(4) {
		s.Attrs = append(s.Attrs, []api.Attr{
			intAttr("k"+strconv.Itoa(i), r.Int63n(3)),
			textAttr("k"+strconv.Itoa(i), "xyz"[r.Intn(4):]),
			{Key: "k" + strconv.Itoa(i), V: api.Value{Kind: api.KBool, N: r.Int63n(2)}},
		}[r.Intn(3)])
	}
	return s
}

func TestP15_2Example(t *testing.T) {
	a, b := one(1, 2, 50), one(1, 2, 40)
	for _, l := range [][]api.Span{{a, b}, {b, a}} {
		h, _ := roomy(t, 10)
		h.Add(l[0])
		f, e := h.Add(l[1])
		if e != api.OK || !likeAll(f.Twice, []api.Span{a}) || len(f.Gone) != 0 {
			t.Errorf("P15.2: Add = %v, %d, want %v twice", f, e, a)
		}
		kept, there := h.Take(1)
		if !there || !likeAll(kept, []api.Span{b}) {
			t.Errorf("P15.2: kept is %v, %v, want %v", kept, there, b)
		}
	}
}

func TestP15_1SizeKnown(t *testing.T) {
	long := strings.Repeat("x", 4096)
	for what, x := range map[string]struct {
		s    api.Span
		want int
	}{
		"nothing":                    {api.Span{}, 64},
		"numbers alone":              {api.Span{Trace: end, ID: end, Parent: end, Kind: 4, Status: 2, Start: end, End: end}, 64},
		"a service":                  {api.Span{Service: "web"}, 67},
		"a name":                     {api.Span{Name: "get"}, 67},
		"both":                       {api.Span{Service: "web", Name: "get /"}, 72},
		"one":                        {one(1, 1, 5), little},
		"bytes, not runes":           {api.Span{Service: "é", Name: "€\U0001F600"}, 73},
		"wrong runes":                {api.Span{Service: "\xff", Name: "\xc3\x00"}, 67},
		"long texts":                 {api.Span{Service: long, Name: long}, 8256},
		"no attribute":               {with(one(1, 1, 5), []api.Attr{}...), little},
		"an attribute of nothing":    {with(one(1, 1, 5), api.Attr{}), little + 16},
		"a number":                   {with(one(1, 1, 5), intAttr("key", math.MinInt64)), little + 16 + 3},
		"a truth":                    {with(one(1, 1, 5), api.Attr{Key: "key", V: api.Value{Kind: api.KBool, N: 1}}), little + 16 + 3},
		"a text":                     {with(one(1, 1, 5), textAttr("key", "text")), little + 16 + 3 + 4},
		"an empty text":              {with(one(1, 1, 5), textAttr("key", "")), little + 16 + 3},
		"a text without a key":       {with(one(1, 1, 5), textAttr("", "text")), little + 16 + 4},
		"a long text":                {with(one(1, 1, 5), textAttr("key", long)), little + 16 + 3 + 4096},
		"a long key":                 {with(one(1, 1, 5), textAttr(long, "a")), little + 16 + 4096 + 1},
		"runes in an attribute":      {with(one(1, 1, 5), textAttr("é", "€")), little + 16 + 2 + 3},
		"two":                        {with(one(1, 1, 5), intAttr("a", 5), textAttr("bc", "def")), little + 32 + 1 + 2 + 3},
		"two alike":                  {with(one(1, 1, 5), textAttr("a", "b"), textAttr("a", "b")), little + 32 + 4},
		"sixteen":                    {with(one(1, 1, 5), slices.Repeat([]api.Attr{textAttr("a", "bc")}, 16)...), little + 16*19},
		"more attributes than may":   {with(one(1, 1, 5), slices.Repeat([]api.Attr{textAttr("a", "bc")}, 1000)...), little + 1000*19},
		"texts longer than may be":   {api.Span{Service: long + "x", Name: long + long}, 64 + 3*4096 + 1},
		"a span that may not be":     {api.Span{Service: "a", Kind: -1, Status: 9, Start: 5, End: 4}, 65},
		"attributes without texts":   {api.Span{Attrs: []api.Attr{intAttr("", 1), intAttr("", 2)}}, 96},
		"a text with zeros in it":    {with(one(1, 1, 5), textAttr("\x00", "\x00\x00")), little + 16 + 3},
		"texts that are very long":   {api.Span{Service: strings.Repeat("x", 1<<20)}, 64 + 1<<20},
		"number behind text, behind": {with(one(1, 1, 5), textAttr("a", "b"), intAttr("c", 1), textAttr("d", "ef")), little + 48 + 6},
	} {
		was := x.s
		was.Attrs = slices.Clone(x.s.Attrs)
		if n := Size(x.s); n != x.want || !like(x.s, was) {
			t.Errorf("P15.1: %s: Size = %d, want %d; it is %v, was %v", what, n, x.want, x.s, was)
		}
	}
}

func TestP15_1SizeByWords(t *testing.T) {
	r := rand.New(rand.NewSource(1))
	for range 2000 {
		s := kinds{traces: 5, ids: 5, ends: 100, wide: 50}.noise(r)
		if n, want := Size(s), sizeOf(s); n != want {
			t.Errorf("P15.1: Size(%v) = %d, want %d", s, n, want)
		}
	}
}

func TestP15_1New(t *testing.T) {
	gaps := map[uint64]bool{
		0: true, 1: true, 10: true, most - 1: true, most: true, most + 1: false, most + 2: false, 1<<63 - 1: false, 1 << 63: false,
		1<<63 + 1: false, end - 1: false, end: false,
	}
	spans := map[int]bool{
		1: true, 2: true, 1000: true, many - 1: true, many: true, 0: false, -1: false, many + 1: false, 1 << 17: false, 1 << 32: false,
		1<<32 + 1: false, -many: false, math.MinInt: false, math.MinInt + 1: false, math.MaxInt: false,
	}
	bytes := map[int]bool{
		1: true, 2: true, 1000: true, 1 << 40: true, most - 1: true, most: true, 0: false, -1: false, most + 1: false, math.MaxInt: false,
		-most: false, math.MinInt: false, math.MinInt + 1: false,
	}
	for gap, gapRight := range gaps {
		for n, spansRight := range spans {
			for b, bytesRight := range bytes {
				right := gapRight && spansRight && bytesRight
				h, e := New(gap, n, b)
				if (h != nil) != right || right && e != api.OK || !right && e != api.ErrArg {
					t.Fatalf("P15.1: New(%d, %d, %d) = %v, %d", gap, n, b, h, e)
				}
				if right {
					check(t, "P15.1: New", h, &plain{gap: gap, spans: n, bytes: b})
				}
			}
		}
	}
}

// TestP15_1AsManyAsNewSaid fills shards to the brim with traces of one span: none goes ahead of it, and one does with each
// that is more.
func TestP15_1AsManyAsNewSaid(t *testing.T) {
	for _, x := range []struct {
		what         string
		spans, bytes int
		fit          int
	}{
		{"one span", 1, most, 1},
		{"two spans", 2, most, 2},
		{"100 spans", 100, most, 100},
		{"65535 spans", many - 1, most, many - 1},
		{"65536 spans", many, most, many},
		{"bytes for one", many, little, 1},
		{"bytes for one and all but another", many, 2*little - 1, 1},
		{"bytes for two", many, 2 * little, 2},
		{"bytes for 100", many, 100 * little, 100},
		{"bytes for 65535", many, many*little - 1, many - 1},
		{"bytes for 65536", many, many * little, many},
		{"bytes for more", many, many*little + 1, many},
		{"both", 7, 7 * little, 7},
		{"both, spans first", 7, 8*little - 1, 7},
		{"both, bytes first", 8, 8*little - 1, 7},
	} {
		h, _ := made(t, 3, x.spans, x.bytes)
		for i := range x.fit {
			f, e := h.Add(one(uint64(i+1), 1, 7))
			if spans, bytes := h.Held(); e != api.OK || len(f.Twice) != 0 || len(f.Gone) != 0 || spans != i+1 || bytes != (i+1)*little {
				t.Fatalf("P15.1: %s: the Add ahead of which there are %d: %v, %d; Held() = %d, %d", x.what, i, f, e, spans, bytes)
			}
		}
		for i := range 5 {
			f, e := h.Add(one(uint64(x.fit+i+1), 1, 7))
			want := []api.Span{one(uint64(i+1), 1, 7)}
			if spans, bytes := h.Held(); e != api.OK || len(f.Twice) != 0 || !likeAll(f.Gone, want) || spans != x.fit || bytes != x.fit*little {
				t.Fatalf("P15.2: %s: an Add to a full one: %v, %d, want %v; Held() = %d, %d", x.what, f, e, want, spans, bytes)
			}
		}
	}
}

func TestP15_1DeadlineKnown(t *testing.T) {
	for _, x := range []struct {
		gap  uint64
		ends []uint64
		want uint64
	}{
		{0, []uint64{0}, 0},
		{0, []uint64{7}, 7},
		{10, []uint64{0}, 10},
		{10, []uint64{7}, 17},
		{10, []uint64{7, 9}, 19},
		{10, []uint64{9, 7}, 19},
		{10, []uint64{9, 9}, 19},
		{10, []uint64{1, 9, 5}, 19},
		{10, []uint64{0, 0, 1}, 11},
		{0, []uint64{most}, most},
		{1, []uint64{most}, most + 1},
		{most, []uint64{0}, most},
		{most, []uint64{1, 0}, most + 1},
		{most - 1, []uint64{most}, 1<<63 - 1},
		{most, []uint64{most - 1}, 1<<63 - 1},
		{most, []uint64{most}, 1 << 63},
		{most, []uint64{0, most, 1}, 1 << 63},
		{1 << 32, []uint64{1<<32 - 1, 5, 1 << 31}, 1<<33 - 1},
	} {
		h, p := roomy(t, x.gap)
		for i, at := range x.ends {
			tell(t, "P15.1", h, p, one(8, uint64(i+1), at))
		}
		if at, there := h.Deadline(8); at != x.want || !there {
			t.Errorf("P15.1: a gap of %d, Ends %d: Deadline = %d, %v, want %d", x.gap, x.ends, at, there, x.want)
		}
		for _, trace := range []uint64{0, 7, 9, end} {
			if at, there := h.Deadline(trace); at != 0 || there {
				t.Errorf("P15.1: Deadline(%d) of one that isn't open = %d, %v", trace, at, there)
			}
		}
		for mark, want := range map[uint64]int{x.want - 1: 0, x.want: 1, x.want + 1: 1, end: 1} {
			if mark == x.want-1 && x.want == 0 {
				continue
			}
			if l := h.Due(mark); len(l) != want || want == 1 && l[0] != 8 {
				t.Errorf("P15.1: a gap of %d, Ends %d: Due(%d) = %d", x.gap, x.ends, mark, l)
			}
		}
	}
}

func TestP15_1DueKnown(t *testing.T) {
	for _, gap := range []uint64{0, 5, most} {
		h, p := roomy(t, gap)
		for _, s := range []api.Span{
			one(4, 1, 40), one(9, 1, 20), one(1, 1, 10), one(end, 1, most), one(3, 1, 30), one(2, 1, 20), one(5, 1, 10),
			one(3, 2, 5), one(9, 2, 20), one(2, 9, 0), one(1<<63, 1, 10),
		} {
			tell(t, "P15.1", h, p, s)
		}
		for at, want := range map[uint64][]uint64{
			0:        nil,
			9:        nil,
			10:       {1, 5, 1 << 63},
			11:       {1, 5, 1 << 63},
			19:       {1, 5, 1 << 63},
			20:       {1, 5, 1 << 63, 2, 9},
			29:       {1, 5, 1 << 63, 2, 9},
			30:       {1, 5, 1 << 63, 2, 9, 3},
			39:       {1, 5, 1 << 63, 2, 9, 3},
			40:       {1, 5, 1 << 63, 2, 9, 3, 4},
			most - 1: {1, 5, 1 << 63, 2, 9, 3, 4},
			most:     {1, 5, 1 << 63, 2, 9, 3, 4, end},
		} {
			for range 2 {
				if l := h.Due(at + gap); !slices.Equal(l, want) {
					t.Errorf("P15.1: a gap of %d: Due(%d) = %d, want %d", gap, at+gap, l, want)
				}
			}
		}
		if l := h.Due(end); len(l) != 8 || l[7] != end {
			t.Errorf("P15.1: a gap of %d: Due(%d) = %d", gap, uint64(end), l)
		}
		if l := h.Due(0); len(l) != 0 {
			t.Errorf("P15.1: a gap of %d: Due(0) = %d", gap, l)
		}
		check(t, "P15.1: Due", h, p)
	}
}

func TestP15_1DueOfEnd0(t *testing.T) {
	h, _ := roomy(t, 0)
	for _, s := range []api.Span{one(3, 1, 0), one(1, 1, 1), one(end, 1, 0), one(2, 1, 0), one(2, 2, 1)} {
		h.Add(s)
	}
	if l := h.Due(0); !slices.Equal(l, []uint64{3, end}) {
		t.Errorf("P15.1: Due(0) = %d", l)
	}
}

func TestP15_1TracesRise(t *testing.T) {
	h, p := roomy(t, 0)
	follow(t, "P15.1: traces", h, p, one(5, 1, 1), one(end, 1, 0), one(1<<63, 1, 5), one(1, 1, 9), one(1<<63-1, 1, 3), one(5, 2, 8), one(1, 3, 0))
	if l := h.Traces(); !slices.Equal(l, []uint64{1, 5, 1<<63 - 1, 1 << 63, end}) {
		t.Errorf("P15.1: Traces() = %d", l)
	}
}

func TestP15_1Take(t *testing.T) {
	h, p := roomy(t, 10)
	follow(t, "P15.1: ahead of Take", h, p, one(1, 9, 5), one(2, 1, 4), one(1, 1<<63, 7), one(1, 2, 6), one(1, end, 5), one(1, 1, 0), one(3, 1, 7))
	if l, there := h.Take(4); len(l) != 0 || there {
		t.Errorf("P15.1: Take of one that isn't open = %v, %v", l, there)
	}
	check(t, "P15.1: nothing taken", h, p)
	l := takeOff(t, "P15.1", h, p, 1)
	if !likeAll(l, []api.Span{one(1, 1, 0), one(1, 2, 6), one(1, 9, 5), one(1, 1<<63, 7), one(1, end, 5)}) {
		t.Errorf("P15.1: Take(1) = %v", l)
	}
	check(t, "P15.1: one taken", h, p)
	for range 2 {
		if l, there := h.Take(1); len(l) != 0 || there {
			t.Errorf("P15.1: Take(1) again = %v, %v", l, there)
		}
		check(t, "P15.1: it taken again", h, p)
	}
	if spans, bytes := h.Held(); spans != 2 || bytes != 2*little || !slices.Equal(h.Traces(), []uint64{2, 3}) {
		t.Errorf("P15.1: behind Take: Held() = %d, %d, Traces() = %d", spans, bytes, h.Traces())
	}
	// Nothing of what it was is left.
	follow(t, "P15.1: the trace that was taken, anew", h, p, one(1, 2, 3), one(1, 7, 1))
	if at, _ := h.Deadline(1); at != 13 {
		t.Errorf("P15.1: Deadline(1) of the one that was taken, anew = %d", at)
	}
	takeAll(t, "P15.1: all", h, p)
}

// TestP15_1TakeIsInOrder adds a trace's spans in some orders, and takes it.
func TestP15_1TakeIsInOrder(t *testing.T) {
	r := rand.New(rand.NewSource(2))
	for _, n := range []int{1, 2, 3, 10, 200, 5000} {
		h, _ := roomy(t, 1)
		for i := range n {
			h.Add(one(6, 1+uint64(i)*0x9E3779B97F4A7C15, r.Uint64()%most))
			h.Add(one(5, uint64(i+1), 0))
		}
		l, there := h.Take(6)
		if len(l) != n || !there || !slices.IsSortedFunc(l, span.Compare) {
			t.Errorf("P15.1: Take of %d = %d, %v", n, len(l), there)
		}
	}
}

func TestP15_2AddOfOneThatMayNotBe(t *testing.T) {
	long := strings.Repeat("x", 4097)
	bad := map[string]func(*api.Span){
		"trace 0":                 func(s *api.Span) { s.Trace = 0 },
		"ID 0":                    func(s *api.Span) { s.ID = 0 },
		"an End ahead":            func(s *api.Span) { s.Start, s.End = 5, 4 },
		"an End above 2^62":       func(s *api.Span) { s.End = most + 1 },
		"the last End":            func(s *api.Span) { s.Start, s.End = end, end },
		"Kind -1":                 func(s *api.Span) { s.Kind = -1 },
		"Kind 5":                  func(s *api.Span) { s.Kind = 5 },
		"Status -1":               func(s *api.Span) { s.Status = -1 },
		"Status 3":                func(s *api.Span) { s.Status = 3 },
		"no Service":              func(s *api.Span) { s.Service = "" },
		"no Name":                 func(s *api.Span) { s.Name = "" },
		"a long Service":          func(s *api.Span) { s.Service = long },
		"a long Name":             func(s *api.Span) { s.Name = long },
		"17 attributes":           func(s *api.Span) { s.Attrs = slices.Repeat([]api.Attr{intAttr("a", 1)}, 17) },
		"a Key twice":             func(s *api.Span) { s.Attrs = []api.Attr{intAttr("a", 1), intAttr("a", 2)} },
		"a Key that is none":      func(s *api.Span) { s.Attrs = []api.Attr{intAttr("", 1)} },
		"a value that is none":    func(s *api.Span) { s.Attrs = []api.Attr{{Key: "a"}} },
		"a text that is too long": func(s *api.Span) { s.Attrs = []api.Attr{textAttr("a", long)} },
		"nothing":                 func(s *api.Span) { *s = api.Span{} },
	}
	for what, spoil := range bad {
		for _, spans := range []int{1, 3, 100} {
			h, p := made(t, 10, spans, most)
			follow(t, "P15.2: "+what, h, p, one(1, 1, 50), one(2, 1, 20), one(2, 2, 30))
			for _, s := range []api.Span{one(1, 1, 60), one(1, 1, 40), one(2, 1, 20), one(3, 1, 70), one(1, 5, 60)} {
				s.Attrs = []api.Attr{intAttr("a", 1)}
				spoil(&s)
				f, e := h.Add(s)
				if e != api.ErrArg || len(f.Twice) != 0 || len(f.Gone) != 0 {
					t.Errorf("P15.2: %s: Add(%v) = %v, %d, want ErrArg", what, s, f, e)
				}
				check(t, "P15.2: "+what, h, p)
			}
			takeAll(t, "P15.2: "+what, h, p)
		}
	}
}

// TestP15_2AtTheEdgesItMayBe: what may be at the ends of all that a span has is taken in.
func TestP15_2AtTheEdgesItMayBe(t *testing.T) {
	long := strings.Repeat("x", 4096)
	h, p := roomy(t, most)
	var attrs []api.Attr
	for i := range 16 {
		attrs = append(attrs, textAttr("k"+strconv.Itoa(i), long))
	}
	follow(t, "P15.2: at the edges", h, p,
		one(1, 1, 0),
		one(end, end, most),
		with(api.Span{Trace: 1 << 63, ID: 1 << 63, Parent: end, Service: long, Name: long, Kind: 4, Status: 2, Start: most, End: most}, attrs...),
		with(one(1, 2, 5), []api.Attr{}...),
		one(1, end, most),
	)
	takeAll(t, "P15.2: at the edges", h, p)
}

// TestP15_2Twice adds two spans of one trace and ID, which differ in one thing, in both orders.
func TestP15_2Twice(t *testing.T) {
	base := api.Span{Trace: 3, ID: 4, Parent: 5, Service: "s", Name: "n", Kind: 1, Status: 1, Start: 6, End: 50}
	for what, x := range map[string]struct{ kept, off api.Span }{
		"a lesser parent":         {from(4, base), base},
		"no parent":               {from(0, base), from(end, base)},
		"a lesser service":        {base, func() api.Span { s := base; s.Service = "sa"; return s }()},
		"a lesser name":           {func() api.Span { s := base; s.Name = "m and more"; return s }(), base},
		"a lesser kind":           {func() api.Span { s := base; s.Kind = 0; return s }(), base},
		"a lesser status":         {base, func() api.Span { s := base; s.Status = 2; return s }()},
		"a lesser start":          {func() api.Span { s := base; s.Start = 0; return s }(), base},
		"a lesser end":            {func() api.Span { s := base; s.End = 49; return s }(), base},
		"a greater end, no less":  {func() api.Span { s := from(4, base); s.End = 90; return s }(), base},
		"no attributes":           {base, with(base, intAttr("a", 1))},
		"fewer attributes":        {with(base, intAttr("a", 1)), with(base, intAttr("a", 1), intAttr("b", 1))},
		"a lesser key":            {with(base, intAttr("a", 1)), with(base, intAttr("b", 1))},
		"a lesser value":          {with(base, intAttr("a", -1)), with(base, intAttr("a", 1))},
		"a number, not a text":    {with(base, intAttr("a", 9)), with(base, textAttr("a", ""))},
		"attributes turned about": {with(base, intAttr("a", 9), intAttr("b", 1)), with(base, intAttr("b", 1), intAttr("a", 9))},
		"it is the same":          {with(base, intAttr("a", 9)), with(base, intAttr("a", 9))},
	} {
		for _, l := range [][]api.Span{{x.kept, x.off}, {x.off, x.kept}, {x.off, x.kept, x.off}, {x.kept, x.off, x.kept}} {
			h, p := roomy(t, 10)
			for i, s := range l {
				f := tell(t, "P15.2: "+what, h, p, s)
				// Of the first kept one that comes, the one that stood there is put off, else the one that comes.
				off := s
				if i > 0 && slices.IndexFunc(l, func(s api.Span) bool { return like(s, x.kept) }) == i {
					off = x.off
				}
				if i > 0 && !likeAll(f.Twice, []api.Span{off}) || i == 0 && len(f.Twice) != 0 || len(f.Gone) != 0 {
					t.Errorf("P15.2: %s: Add(%v) = %v, want %v twice", what, s, f, off)
				}
				check(t, "P15.2: "+what, h, p)
			}
			spans, bytes := h.Held()
			if at, _ := h.Deadline(3); at != x.kept.End+10 || spans != 1 || bytes != sizeOf(x.kept) {
				t.Errorf("P15.2: %s: Deadline(3) = %d, Held() = %d, %d", what, at, spans, bytes)
			}
			if kept, _ := h.Take(3); !likeAll(kept, []api.Span{x.kept}) {
				t.Errorf("P15.2: %s: kept is %v, want %v", what, kept, x.kept)
			}
		}
	}
}

// TestP15_2WhatIsNotTwice: another trace with the same ID, and another ID of the same trace.
func TestP15_2WhatIsNotTwice(t *testing.T) {
	h, p := roomy(t, 10)
	for _, s := range []api.Span{one(1, 2, 5), one(2, 1, 5), one(2, 2, 5), one(1, 1, 5), one(1, end, 5), one(end, 1, 5), one(1, 1<<32+1, 5), one(1<<32+1, 1, 5)} {
		if f := tell(t, "P15.2: not twice", h, p, s); len(f.Twice) != 0 || len(f.Gone) != 0 {
			t.Errorf("P15.2: Add(%v) = %v", s, f)
		}
		check(t, "P15.2: not twice", h, p)
	}
	if spans, bytes := h.Held(); spans != 8 || bytes != 8*little {
		t.Errorf("P15.2: Held() = %d, %d", spans, bytes)
	}
	// What was taken isn't there any more.
	takeOff(t, "P15.2", h, p, 1)
	if f := tell(t, "P15.2: taken, and again", h, p, one(1, 2, 5)); len(f.Twice) != 0 {
		t.Errorf("P15.2: Add of one whose trace was taken = %v", f)
	}
}

// TestP15_2DeadlineBehindTwice: the deadline is that of the spans that are kept, be it less than it was.
func TestP15_2DeadlineBehindTwice(t *testing.T) {
	for _, x := range []struct {
		what string
		l    []api.Span
		want uint64
	}{
		{"the only one, a lesser End", []api.Span{one(1, 1, 50), one(1, 1, 40)}, 50},
		{"the only one, a greater End, put off", []api.Span{one(1, 1, 40), one(1, 1, 50)}, 50},
		{"the only one, a greater End, preferred", []api.Span{from(2, one(1, 1, 40)), from(1, one(1, 1, 50))}, 60},
		{"the only one, a lesser End, put off", []api.Span{from(1, one(1, 1, 50)), from(2, one(1, 1, 40))}, 60},
		{"the last one, then another is", []api.Span{one(1, 1, 50), one(1, 2, 45), one(1, 1, 40)}, 55},
		{"the last one, still the last", []api.Span{one(1, 1, 50), one(1, 2, 45), one(1, 1, 46)}, 56},
		{"the last one, as late as another then", []api.Span{one(1, 1, 50), one(1, 2, 45), one(1, 1, 45)}, 55},
		{"one of two last ones", []api.Span{one(1, 1, 50), one(1, 2, 50), one(1, 1, 40)}, 60},
		{"both last ones", []api.Span{one(1, 1, 50), one(1, 2, 50), one(1, 1, 40), one(1, 2, 30)}, 50},
		{"one that isn't last", []api.Span{one(1, 1, 50), one(1, 2, 45), one(1, 2, 10)}, 60},
		{"one that becomes last", []api.Span{one(1, 1, 50), from(2, one(1, 2, 45)), from(1, one(1, 2, 70))}, 80},
		{"one that would become last, put off", []api.Span{one(1, 1, 50), from(1, one(1, 2, 45)), from(2, one(1, 2, 70))}, 60},
		{"again and again", []api.Span{one(1, 1, 50), one(1, 2, 20), one(1, 1, 40), one(1, 1, 30), one(1, 1, 10), one(1, 1, 5)}, 30},
		{"down to 0", []api.Span{one(1, 1, most), one(1, 1, 0)}, 10},
		{"up from 0", []api.Span{from(2, one(1, 1, 0)), from(1, one(1, 1, most))}, most + 10},
		{"another trace's", []api.Span{one(2, 1, 90), one(1, 1, 50), one(2, 1, 80)}, 60},
	} {
		h, p := roomy(t, 10)
		follow(t, "P15.2: "+x.what, h, p, x.l...)
		if at, there := h.Deadline(1); at != x.want || !there {
			t.Errorf("P15.2: %s: Deadline(1) = %d, %v, want %d", x.what, at, there, x.want)
		}
		takeAll(t, "P15.2: "+x.what, h, p)
	}
}

// TestP15_2SizesBehindTwice: the sizes are those of the spans that are kept, and traces go when one that is preferred is
// greater.
func TestP15_2SizesBehindTwice(t *testing.T) {
	for _, x := range []struct {
		what  string
		bytes int
		l     []api.Span
		gone  []uint64
		held  int
	}{
		{"a lesser one", 300, []api.Span{from(2, wide(1, 1, 50, 200)), one(2, 1, 60), from(1, one(1, 1, 50))}, nil, 132},
		{"a greater one, with room", 300, []api.Span{from(2, one(1, 1, 50)), one(2, 1, 60), from(1, wide(1, 1, 50, 234))}, nil, 300},
		{"a greater one, without", 300, []api.Span{from(2, one(1, 1, 50)), one(2, 1, 40), from(1, wide(1, 1, 50, 235))}, []uint64{2}, 235},
		{"a greater one that is put off", 300, []api.Span{from(1, one(1, 1, 50)), one(2, 1, 40), from(2, wide(1, 1, 50, 290))}, nil, 132},
		{"a greater one, itself", 300, []api.Span{from(2, one(1, 1, 50)), one(2, 1, 60), from(1, wide(1, 1, 50, 235))}, []uint64{1}, 66},
		{"a greater one, greater than all", 300, []api.Span{from(2, one(1, 1, 50)), one(2, 1, 40), from(1, wide(1, 1, 50, 301))}, []uint64{2, 1}, 0},
		{"a greater one, by its new End", 300, []api.Span{from(2, one(1, 1, 50)), one(2, 1, 60), from(1, wide(1, 1, 70, 235))}, []uint64{2}, 235},
		{"a greater one, by its new End, less", 300, []api.Span{from(2, one(1, 1, 70)), one(2, 1, 60), from(1, wide(1, 1, 50, 235))}, []uint64{1}, 66},
		{"a lesser one, then one more", 300, []api.Span{from(2, wide(1, 1, 50, 234)), one(2, 1, 60), from(1, one(1, 1, 50)), wide(3, 1, 40, 168)}, nil, 300},
	} {
		h, p := made(t, 10, many, x.bytes)
		follow(t, "P15.2: "+x.what, h, p, x.l[:len(x.l)-1]...)
		f := tell(t, "P15.2: "+x.what, h, p, x.l[len(x.l)-1])
		if l := tracesOf(f.Gone); !slices.Equal(l, x.gone) {
			t.Errorf("P15.2: %s: %d go, want %d", x.what, l, x.gone)
		}
		if _, bytes := h.Held(); bytes != x.held {
			t.Errorf("P15.2: %s: %d bytes, want %d", x.what, bytes, x.held)
		}
		check(t, "P15.2: "+x.what, h, p)
		takeAll(t, "P15.2: "+x.what, h, p)
	}
}

// tracesOf is the traces of spans, each once where its spans stand behind one another.
func tracesOf(l []api.Span) []uint64 {
	var traces []uint64
	for _, s := range l {
		traces = append(traces, s.Trace)
	}
	return slices.Compact(traces)
}

// TestP15_2WhoGoes fills shards, and adds one span that is too many, of which the one or the other has to go.
func TestP15_2WhoGoes(t *testing.T) {
	for _, x := range []struct {
		what         string
		spans, bytes int
		there        []api.Span
		add          api.Span
		want         []api.Span
	}{
		{"too many spans, the first deadline", 3, most,
			[]api.Span{one(1, 1, 10), one(2, 1, 20), one(3, 1, 30)}, one(4, 1, 40), []api.Span{one(1, 1, 10)}},
		{"too many spans, not the first number", 3, most,
			[]api.Span{one(1, 1, 30), one(2, 1, 10), one(3, 1, 20)}, one(4, 1, 40), []api.Span{one(2, 1, 10)}},
		{"too many spans, of one deadline the least number", 3, most,
			[]api.Span{one(7, 1, 10), one(5, 1, 10), one(6, 1, 10)}, one(8, 1, 10), []api.Span{one(5, 1, 10)}},
		{"too many spans, its own by its deadline", 3, most,
			[]api.Span{one(1, 1, 10), one(2, 1, 20), one(3, 1, 30)}, one(4, 1, 9), []api.Span{one(4, 1, 9)}},
		{"too many spans, its own by its number", 3, most,
			[]api.Span{one(7, 1, 10), one(5, 1, 10), one(6, 1, 10)}, one(4, 1, 10), []api.Span{one(4, 1, 10)}},
		{"too many spans, its own with all that wait", 3, most,
			[]api.Span{one(1, 5, 10), one(2, 1, 20), one(1, 2, 3)}, one(1, 3, 15), []api.Span{one(1, 2, 3), one(1, 3, 15), one(1, 5, 10)}},
		{"too many spans, not its own, as its deadline is later now", 3, most,
			[]api.Span{one(1, 5, 10), one(2, 1, 20), one(1, 2, 3)}, one(1, 3, 25), []api.Span{one(2, 1, 20)}},
		{"too many spans, one trace alone", 3, most,
			[]api.Span{one(1, 3, 10), one(1, 1, 20), one(1, 2, 30)}, one(1, 4, 5), []api.Span{one(1, 1, 20), one(1, 2, 30), one(1, 3, 10), one(1, 4, 5)}},
		{"too many spans, one with many goes whole", 5, most,
			[]api.Span{one(1, 3, 10), one(1, 9, 10), one(2, 2, 30), one(1, 1, 20), one(1, 2, 3)}, one(3, 1, 40),
			[]api.Span{one(1, 1, 20), one(1, 2, 3), one(1, 3, 10), one(1, 9, 10)}},
		{"too many spans, by the last End, not the first", 4, most,
			[]api.Span{one(1, 1, 0), one(1, 2, 90), one(2, 1, 50), one(2, 2, 60)}, one(3, 1, 70), []api.Span{one(2, 1, 50), one(2, 2, 60)}},
		{"one span at most", 1, most,
			[]api.Span{one(1, 1, 10)}, one(2, 1, 20), []api.Span{one(1, 1, 10)}},
		{"one span at most, its own", 1, most,
			[]api.Span{one(2, 1, 20)}, one(1, 1, 10), []api.Span{one(1, 1, 10)}},
		{"one span at most, its own and another", 1, most,
			[]api.Span{one(2, 1, 20)}, one(2, 2, 10), []api.Span{one(2, 1, 20), one(2, 2, 10)}},
		{"too many bytes, one is enough", 10, 200,
			[]api.Span{one(1, 1, 10), one(2, 1, 20), one(3, 1, 30)}, one(4, 1, 40), []api.Span{one(1, 1, 10)}},
		{"too many bytes by one", 10, 4*little - 1,
			[]api.Span{one(1, 1, 10), one(2, 1, 20), one(3, 1, 30)}, one(4, 1, 40), []api.Span{one(1, 1, 10)}},
		{"as many bytes as may be", 10, 4 * little,
			[]api.Span{one(1, 1, 10), one(2, 1, 20), one(3, 1, 30)}, one(4, 1, 40), nil},
		{"too many bytes, two must go", 10, 200,
			[]api.Span{one(2, 1, 10), one(1, 1, 20), one(3, 1, 30)}, wide(4, 1, 40, 132), []api.Span{one(2, 1, 10), one(1, 1, 20)}},
		{"too many bytes, two are enough", 10, 200,
			[]api.Span{one(2, 1, 10), one(1, 1, 20), one(3, 1, 30)}, wide(4, 1, 40, 134), []api.Span{one(2, 1, 10), one(1, 1, 20)}},
		{"too many bytes, three must go", 10, 200,
			[]api.Span{one(2, 1, 10), one(1, 1, 20), one(3, 1, 30)}, wide(4, 1, 40, 135), []api.Span{one(2, 1, 10), one(1, 1, 20), one(3, 1, 30)}},
		{"too many bytes, as large as all", 10, 200,
			[]api.Span{one(2, 1, 10), one(1, 1, 20), one(3, 1, 30)}, wide(4, 1, 40, 200), []api.Span{one(2, 1, 10), one(1, 1, 20), one(3, 1, 30)}},
		{"too many bytes, greater than may be, all ahead of it go first", 10, 200,
			[]api.Span{one(2, 1, 10), one(1, 1, 20), one(3, 1, 30)}, wide(4, 1, 40, 201),
			[]api.Span{one(2, 1, 10), one(1, 1, 20), one(3, 1, 30), wide(4, 1, 40, 201)}},
		{"too many bytes, greater than may be, it goes first", 10, 200,
			[]api.Span{one(2, 1, 10), one(1, 1, 20), one(3, 1, 30)}, wide(4, 1, 5, 201), []api.Span{wide(4, 1, 5, 201)}},
		{"too many bytes, greater than may be, amid", 10, 200,
			[]api.Span{one(2, 1, 10), one(1, 1, 20), one(3, 1, 30)}, wide(4, 1, 20, 201), []api.Span{one(2, 1, 10), one(1, 1, 20), wide(4, 1, 20, 201)}},
		{"too many bytes, a small first one alone isn't enough", 10, 400,
			[]api.Span{one(9, 1, 10), wide(8, 2, 20, 120), wide(8, 1, 10, 110), wide(7, 1, 20, 100)}, wide(6, 1, 90, 380),
			[]api.Span{one(9, 1, 10), wide(7, 1, 20, 100), wide(8, 1, 10, 110), wide(8, 2, 20, 120)}},
		{"too many spans and bytes, bytes ask for more", 3, 200,
			[]api.Span{one(1, 1, 10), one(2, 1, 20), one(3, 1, 30)}, wide(4, 1, 40, 134), []api.Span{one(1, 1, 10), one(2, 1, 20)}},
		{"too many spans and bytes, spans go with the trace", 3, 200,
			[]api.Span{one(1, 1, 10), one(1, 2, 20), one(3, 1, 30)}, wide(4, 1, 40, 134), []api.Span{one(1, 1, 10), one(1, 2, 20)}},
		{"an attribute is what is too much", 10, 2*little + 18,
			[]api.Span{one(1, 1, 10)}, with(one(2, 1, 20), textAttr("a", "bc")), []api.Span{one(1, 1, 10)}},
		{"an attribute has room", 10, 2*little + 19,
			[]api.Span{one(1, 1, 10)}, with(one(2, 1, 20), textAttr("a", "bc")), nil},
		{"a byte at most", 10, 1,
			nil, one(1, 1, 10), []api.Span{one(1, 1, 10)}},
		{"all but one byte of a span", 10, little - 1,
			nil, one(1, 1, 10), []api.Span{one(1, 1, 10)}},
		{"deadlines above 2^62", 2, most,
			[]api.Span{one(1, 1, most), one(2, 1, most-1)}, one(3, 1, most), []api.Span{one(2, 1, most-1)}},
		{"great numbers", 2, most,
			[]api.Span{one(1<<63, 1, 5), one(1<<63-1, 1, 5)}, one(end, 1, 5), []api.Span{one(1<<63-1, 1, 5)}},
	} {
		orders(len(x.there), func(order []int) {
			for _, gap := range []uint64{0, 10, most} {
				h, p := made(t, gap, x.spans, x.bytes)
				for _, i := range order {
					if f := tell(t, "P15.2: "+x.what, h, p, x.there[i]); len(f.Twice) != 0 || len(f.Gone) != 0 {
						t.Errorf("P15.2: %s: the shard isn't full: %v", x.what, f)
					}
				}
				check(t, "P15.2: "+x.what+": full", h, p)
				if f := tell(t, "P15.2: "+x.what, h, p, x.add); len(f.Twice) != 0 || !likeAll(f.Gone, x.want) {
					t.Errorf("P15.2: %s: Add = %v, want %v gone", x.what, f, x.want)
				}
				check(t, "P15.2: "+x.what, h, p)
				for _, s := range x.want {
					if at, there := h.Deadline(s.Trace); at != 0 || there {
						t.Errorf("P15.2: %s: Deadline(%d) of one that is gone = %d, %v", x.what, s.Trace, at, there)
					}
				}
			}
		})
	}
}

// orders hands on some orders of n things: all of few, of more those that are turned round.
func orders(n int, each func([]int)) {
	order := make([]int, n)
	for i := range order {
		order[i] = i
	}
	if n > 3 {
		for range n {
			order = append(order[1:], order[0])
			each(order)
		}
		slices.Reverse(order)
		each(order)
		return
	}
	permute(order, 0, each)
}

// permute hands on all orders of a list in which those ahead of at stand still.
func permute(l []int, at int, each func([]int)) {
	if at >= len(l)-1 {
		each(l)
		return
	}
	for i := at; i < len(l); i++ {
		l[at], l[i] = l[i], l[at]
		permute(l, at+1, each)
		l[at], l[i] = l[i], l[at]
	}
}

// TestP15_2WhoIsGoneIsNoMore: a trace that went is as one that never came.
func TestP15_2WhoIsGoneIsNoMore(t *testing.T) {
	h, p := made(t, 5, 2, most)
	follow(t, "P15.2: gone", h, p, one(1, 1, 10), one(1, 2, 30), one(2, 1, 40))
	if l, there := h.Take(1); len(l) != 0 || there {
		t.Errorf("P15.2: Take(1) of one that is gone = %v, %v", l, there)
	}
	if f := tell(t, "P15.2: gone, and again", h, p, one(1, 1, 10)); len(f.Twice) != 0 || len(f.Gone) != 0 {
		t.Errorf("P15.2: Add of one that is gone = %v", f)
	}
	if at, _ := h.Deadline(1); at != 15 {
		t.Errorf("P15.2: Deadline(1) of one that was gone = %d", at)
	}
	takeAll(t, "P15.2: gone, and again", h, p)
}

// TestP15_1LongRun makes all calls, one behind the other, of few kinds of spans and of many, in small shards and in great ones.
func TestP15_1LongRun(t *testing.T) {
	for seed := range int64(60) {
		r := rand.New(rand.NewSource(seed))
		k := kinds{traces: 1 + r.Intn(12), ids: 1 + r.Intn(8), ends: []uint64{3, 50, most}[r.Intn(3)], wide: []int{0, 10, 300}[r.Intn(3)]}
		h, p := made(t, []uint64{0, 10, most}[seed%3], 1+r.Intn(40), 1+r.Intn(6000))
		what := "P15: seed " + strconv.FormatInt(seed, 10)
		for i := range 150 {
			switch r.Intn(12) {
			case 0:
				takeOff(t, what, h, p, uint64(r.Intn(k.traces+2)))
			case 1:
				for _, trace := range p.due(r.Uint64() % (k.ends + 1 + p.gap)) {
					takeOff(t, what, h, p, trace)
				}
			case 2:
				s := k.noise(r)
				s.Kind += 5
				if f, e := h.Add(s); e != api.ErrArg || len(f.Twice) != 0 || len(f.Gone) != 0 {
					t.Errorf("%s: Add(%v) = %v, %d", what, s, f, e)
				}
			default:
				tell(t, what, h, p, k.noise(r))
			}
			check(t, what+", call "+strconv.Itoa(i), h, p)
		}
		takeAll(t, what, h, p)
	}
}

// TestP15_2EachOnce: each span that was added waits, or was told, as often as it came.
func TestP15_2EachOnce(t *testing.T) {
	for seed := range int64(20) {
		r := rand.New(rand.NewSource(seed))
		k := kinds{traces: 8, ids: 5, ends: 40, wide: 60}
		h, _ := made(t, 3, 1+r.Intn(20), 1+r.Intn(3000))
		var came, told []api.Span
		for range 400 {
			s := k.noise(r)
			came = append(came, s)
			f, _ := h.Add(s)
			told = slices.Concat(told, f.Twice, f.Gone)
			if r.Intn(10) == 0 {
				l, _ := h.Take(s.Trace)
				told = append(told, l...)
			}
		}
		for _, trace := range h.Traces() {
			l, _ := h.Take(trace)
			told = append(told, l...)
		}
		slices.SortFunc(came, span.Compare)
		slices.SortFunc(told, span.Compare)
		if !likeAll(came, told) {
			t.Errorf("P15.2: seed %d: of %d spans %d were told, or not the same ones", seed, len(came), len(told))
		}
	}
}

// TestP15_3NeverMore reckons what waits anew from what Take tells of a second shard that was given the same.
func TestP15_3NeverMore(t *testing.T) {
	for seed := range int64(30) {
		r := rand.New(rand.NewSource(seed))
		k := kinds{traces: 1 + r.Intn(20), ids: 1 + r.Intn(30), ends: 1000, wide: 100}
		spans, bytes := 1+r.Intn(30), 1+r.Intn(5000)
		h, _ := made(t, 7, spans, bytes)
		var came []api.Span
		for i := range 300 {
			came = append(came, k.noise(r))
			h.Add(came[i])
			if n, b := h.Held(); n > spans || b > bytes || n < 0 || b < 0 {
				t.Fatalf("P15.3: seed %d: Held() = %d, %d, at most %d, %d", seed, n, b, spans, bytes)
			}
		}
		g, _ := made(t, 7, spans, bytes)
		for _, s := range came {
			g.Add(s)
		}
		n, b := 0, 0
		for _, trace := range g.Traces() {
			l, _ := g.Take(trace)
			for _, s := range l {
				n, b = n+1, b+sizeOf(s)
			}
		}
		if spans, bytes := h.Held(); spans != n || bytes != b {
			t.Errorf("P15.3: seed %d: Held() = %d, %d, but %d spans of %d bytes are told", seed, spans, bytes, n, b)
		}
	}
}

// leasts are of each trace and ID the least span, by span.Compare.
func leasts(l []api.Span) []api.Span {
	l = slices.SortedFunc(slices.Values(l), span.Compare)
	return slices.CompactFunc(l, func(a, b api.Span) bool { return a.Trace == b.Trace && a.ID == b.ID })
}

// TestP15_3WhateverOrder: where none has to go, of each trace and ID the least one is kept, and all others were put off.
func TestP15_3WhateverOrder(t *testing.T) {
	for seed := range int64(30) {
		r := rand.New(rand.NewSource(seed))
		k := kinds{traces: 1 + r.Intn(6), ids: 1 + r.Intn(6), ends: []uint64{2, 30, most}[seed%3], wide: 5}
		came := make([]api.Span, 120)
		for i := range came {
			came[i] = k.noise(r)
		}
		want := leasts(came)
		for range 8 {
			h, p := roomy(t, 9)
			all := []api.Span{}
			for _, s := range came {
				f := tell(t, "P15.3", h, p, s)
				all = append(all, f.Twice...)
				if len(f.Gone) != 0 {
					t.Errorf("P15.3: seed %d: gone are %v", seed, f.Gone)
				}
			}
			check(t, "P15.3", h, p)
			var kept []api.Span
			for _, trace := range h.Traces() {
				l, _ := h.Take(trace)
				kept = append(kept, l...)
			}
			if !likeAll(kept, want) {
				t.Errorf("P15.3: seed %d: kept are %v, want %v", seed, kept, want)
			}
			all = slices.SortedFunc(slices.Values(append(all, kept...)), span.Compare)
			if !likeAll(all, slices.SortedFunc(slices.Values(came), span.Compare)) {
				t.Errorf("P15.3: seed %d: kept and twice aren't what came", seed)
			}
			r.Shuffle(len(came), func(i, j int) { came[i], came[j] = came[j], came[i] })
		}
	}
}

// TestP15_3AllOrders adds a few spans in all orders.
func TestP15_3AllOrders(t *testing.T) {
	for _, l := range [][]api.Span{
		{one(1, 1, 50), one(1, 1, 40), from(1, one(1, 1, 5)), one(1, 2, 45), one(2, 1, 45)},
		{from(3, one(1, 1, 5)), from(2, one(1, 1, 6)), from(1, one(1, 1, 7)), one(1, 1, 8), one(1, 2, 6)},
		{one(1, 1, 5), one(1, 1, 5), with(one(1, 1, 5), intAttr("a", 1)), with(one(1, 1, 5), intAttr("a", 1)), one(1, 1, 4)},
	} {
		var all []int
		for i := range l {
			all = append(all, i)
		}
		permute(all, 0, func(order []int) {
			h, p := roomy(t, 10)
			for _, i := range order {
				tell(t, "P15.3", h, p, l[i])
			}
			check(t, "P15.3", h, p)
			var kept []api.Span
			for _, trace := range h.Traces() {
				l, _ := h.Take(trace)
				kept = append(kept, l...)
			}
			if !likeAll(kept, leasts(l)) {
				t.Errorf("P15.3: in the order %d: kept are %v, want %v", order, kept, leasts(l))
			}
		})
	}
}

// TestP15_3GreatestShard goes past 65536 spans of one trace, each of them twice with a lesser End, and of many traces.
func TestP15_3GreatestShard(t *testing.T) {
	h, _ := made(t, 10, many, most)
	for i := range uint64(many) {
		if f, e := h.Add(one(1, i+1, 1000+i)); e != api.OK || len(f.Twice) != 0 || len(f.Gone) != 0 {
			t.Fatalf("P15.3: Add number %d = %v, %d", i, f, e)
		}
	}
	for i := range uint64(many) {
		id := many - i
		if f, e := h.Add(one(1, id, 5)); e != api.OK || len(f.Twice) != 1 || f.Twice[0].End != 999+id || len(f.Gone) != 0 {
			t.Fatalf("P15.2: Add of the ID %d again = %v, %d", id, f, e)
		}
		if at, _ := h.Deadline(1); i < many-1 && at != 10+998+id || i == many-1 && at != 15 {
			t.Fatalf("P15.2: Deadline(1) behind the ID %d = %d", id, at)
		}
	}
	if f, e := h.Add(one(2, 1, 6)); e != api.OK || len(f.Gone) != many || !slices.IsSortedFunc(f.Gone, span.Compare) {
		t.Errorf("P15.2: Add of one that is too many: %d go, %d", len(f.Gone), e)
	}
	if n, b := h.Held(); n != 1 || b != little {
		t.Errorf("P15.3: Held() = %d, %d", n, b)
	}
	for i := range uint64(many - 1) {
		h.Add(one(i+3, 1, 7))
	}
	if f, e := h.Add(wide(9, 2, 9, 70)); e != api.OK || !likeAll(f.Gone, []api.Span{one(2, 1, 6)}) {
		t.Errorf("P15.2: Add = %v, %d", f, e)
	}
	if n, b := h.Held(); n != many || b != many*little+4 || len(h.Traces()) != many-1 || len(h.Due(end)) != many-1 {
		t.Errorf("P15.3: Held() = %d, %d, %d traces", n, b, len(h.Traces()))
	}
}

func TestR1NilShard(t *testing.T) {
	var h *Shard
	for range 3 {
		for _, s := range []api.Span{one(1, 1, 5), {}, one(0, 1, 5), one(1, 1, end)} {
			if f, e := h.Add(s); e != api.ErrNil || len(f.Twice) != 0 || len(f.Gone) != 0 {
				t.Errorf("P15.2: nil.Add(%v) = %v, %d", s, f, e)
			}
		}
		for _, n := range strangers {
			if l, there := h.Take(n); len(l) != 0 || there {
				t.Errorf("P15.1: nil.Take(%d) = %v, %v", n, l, there)
			}
			if at, there := h.Deadline(n); at != 0 || there {
				t.Errorf("P15.1: nil.Deadline(%d) = %d, %v", n, at, there)
			}
			if l := h.Due(n); len(l) != 0 {
				t.Errorf("P15.1: nil.Due(%d) = %d", n, l)
			}
		}
		if spans, bytes := h.Held(); spans != 0 || bytes != 0 || len(h.Traces()) != 0 {
			t.Errorf("P15.1: nil.Held() = %d, %d, Traces() = %d", spans, bytes, h.Traces())
		}
	}
}

func TestR1NilThatNewTold(t *testing.T) {
	h, _ := New(0, 0, 1)
	f, e := h.Add(one(1, 1, 5))
	_, there := h.Take(1)
	if e != api.ErrNil || len(f.Twice) != 0 || len(f.Gone) != 0 || there || len(h.Due(end)) != 0 {
		t.Errorf("R1: what New told beside ErrArg is no nil shard: Add = %v, %d", f, e)
	}
}

// TestR1NotMadeByNew: one that nobody made by New has no gap, and room for nothing.
func TestR1NotMadeByNew(t *testing.T) {
	for _, h := range []*Shard{{}, new(Shard)} {
		p := &plain{}
		check(t, "R1: not made by New", h, p)
		r := rand.New(rand.NewSource(3))
		for range 50 {
			takeOff(t, "R1: not made by New", h, p, uint64(r.Intn(5)))
			tell(t, "R1: not made by New", h, p, kinds{traces: 3, ids: 3, ends: most}.noise(r))
			if f, e := h.Add(api.Span{}); e != api.ErrArg || len(f.Twice) != 0 || len(f.Gone) != 0 {
				t.Errorf("R1: not made by New: Add = %v, %d", f, e)
			}
			check(t, "R1: not made by New", h, p)
		}
	}
}

// TestR1CopyOfAShard asks for no more than answers, and that no shard has more than it may: what a copy has in common with
// its other one the document leaves open.
func TestR1CopyOfAShard(t *testing.T) {
	r := rand.New(rand.NewSource(4))
	h, _ := made(t, 5, 10, 900)
	h.Add(one(1, 1, 1))
	all := []Shard{*h, *h, *h, {}, {}}
	k := kinds{traces: 5, ids: 5, ends: 20, wide: 9}
	for range 3000 {
		h := &all[r.Intn(len(all))]
		if _, e := h.Add(k.noise(r)); e != api.OK {
			t.Errorf("R1: a copy's Add = %d", e)
		}
		if r.Intn(5) == 0 {
			h.Take(1 + uint64(r.Intn(5)))
		}
		for i := range all {
			n, b := all[i].Held()
			if n > 10 || b > 900 || n < 0 || b < 0 || len(all[i].Due(end)) != len(all[i].Traces()) {
				t.Fatalf("R1: a copy's Held() = %d, %d", n, b)
			}
		}
	}
}

func TestR2ErrorTellsNoShard(t *testing.T) {
	for _, x := range []struct {
		gap          uint64
		spans, bytes int
	}{{most + 1, 1, 1}, {0, 0, 1}, {0, many + 1, 1}, {0, 1, 0}, {0, 1, most + 1}, {end, -1, -1}} {
		if h, e := New(x.gap, x.spans, x.bytes); h != nil || e != api.ErrArg {
			t.Errorf("R2: New(%d, %d, %d) = %v, %d", x.gap, x.spans, x.bytes, h, e)
		}
	}
}

// spoil writes over all that a list of spans has.
func spoil(l []api.Span) {
	for i := range l {
		for j := range l[i].Attrs {
			l[i].Attrs[j] = api.Attr{Key: "spoilt"}
		}
		_ = append(l[i].Attrs[:0], slices.Repeat([]api.Attr{{Key: "spoilt"}}, cap(l[i].Attrs))...)
		l[i] = api.Span{Name: "spoilt"}
	}
	_ = append(l[:0], slices.Repeat([]api.Span{{Name: "spoilt"}}, cap(l))...)
}

// TestR4WhatIsGivenAndTold writes over all that was given and told, behind each call, and goes on.
func TestR4WhatIsGivenAndTold(t *testing.T) {
	for seed := range int64(20) {
		r := rand.New(rand.NewSource(seed))
		k := kinds{traces: 4, ids: 3, ends: 30, wide: 20}
		h, p := made(t, 2, 1+r.Intn(12), 1+r.Intn(3000))
		for range 200 {
			s := k.noise(r)
			// With room behind the last attribute: nothing may be written there.
			s.Attrs = append(make([]api.Attr, 0, 8), s.Attrs...)
			copy(s.Attrs[:8][len(s.Attrs):], slices.Repeat([]api.Attr{intAttr("behind", 7)}, 8))
			was := clones([]api.Span{s})[0]
			want := p.add(was)
			want = Fate{Twice: clones(want.Twice), Gone: clones(want.Gone)}
			f, _ := h.Add(s)
			if !like(s, was) {
				t.Errorf("R4: Add made %v of %v", s, was)
			}
			for _, a := range s.Attrs[:8][len(s.Attrs):] {
				if a != intAttr("behind", 7) {
					t.Errorf("R4: Add wrote %v behind %v", a, was)
				}
			}
			spoil([]api.Span{s})
			if !likeAll(f.Twice, want.Twice) || !likeAll(f.Gone, want.Gone) {
				t.Errorf("R4: what is told hangs on what is given: %v, want %v", f, want)
			}
			spoil(f.Twice)
			if !likeAll(f.Gone, want.Gone) {
				t.Errorf("R4: what is gone hangs on what is twice: %v, want %v", f.Gone, want.Gone)
			}
			spoil(f.Gone)
			clear(h.Traces())
			clear(h.Due(end))
			check(t, "R4", h, p)
			if r.Intn(8) == 0 {
				spoil(takeOff(t, "R4", h, p, was.Trace))
			}
		}
		takeAll(t, "R4", h, p)
	}
}

// TestR4Alike adds the same span, with the same list, again and again: the one that is kept and those that are told are apart.
func TestR4Alike(t *testing.T) {
	s := with(one(1, 1, 5), intAttr("a", 1), textAttr("b", "c"))
	for _, spans := range []int{1, 2} {
		h, _ := made(t, 0, spans, most)
		want := clones([]api.Span{s})
		var told [][]api.Span
		for range 5 {
			f, _ := h.Add(s)
			told = append(told, f.Twice)
		}
		f, _ := h.Add(one(2, 1, 9))
		told = append(told, f.Gone)
		l, _ := h.Take(1)
		told = append(told, l)
		seen := map[*api.Attr]bool{&s.Attrs[0]: true}
		for _, l := range told {
			for _, x := range l {
				if !like(x, want[0]) || seen[&x.Attrs[0]] {
					t.Errorf("R4: at most %d: %v is told, or its attributes lie in another's", spans, x)
				}
				seen[&x.Attrs[0]] = true
			}
		}
		if len(seen) != 6 {
			t.Errorf("R4: at most %d: %d lists were told", spans, len(seen)-1)
		}
	}
}

// TestR4AskedTwice: two answers to one question share nothing.
func TestR4AskedTwice(t *testing.T) {
	h, p := roomy(t, 0)
	follow(t, "R4", h, p, one(1, 1, 5), one(2, 1, 6), one(3, 1, 7))
	due, traces := h.Due(end), h.Traces()
	other, others := h.Due(end), h.Traces()
	clear(due)
	clear(traces)
	if !slices.Equal(other, []uint64{1, 2, 3}) || !slices.Equal(others, []uint64{1, 2, 3}) {
		t.Errorf("R4: Due = %d, Traces = %d, behind others that were written over", other, others)
	}
	check(t, "R4: asked twice", h, p)
}

// TestR5NothingGoesRound: great Ends and gaps come to deadlines above 2^62, and of these the least is first.
func TestR5NothingGoesRound(t *testing.T) {
	h, p := made(t, most, 3, most)
	follow(t, "R5", h, p, one(1, 1, most), one(2, 1, 0), one(3, 1, most-1), one(4, 1, most))
	if at, _ := h.Deadline(1); at != 1<<63 {
		t.Errorf("R5: Deadline(1) = %d", at)
	}
	if l := h.Due(1<<63 - 1); !slices.Equal(l, []uint64{3}) {
		t.Errorf("R5: Due(2^63 - 1) = %d", l)
	}
	if l := h.Due(end); !slices.Equal(l, []uint64{3, 1, 4}) {
		t.Errorf("R5: Due(2^64 - 1) = %d", l)
	}
}

func TestR6NothingIsKept(t *testing.T) {
	first, p := made(t, 10, 4, 1000)
	follow(t, "R6", first, p, one(1, 1, 5), one(2, 1, 6), one(1, 1, 4))
	r := rand.New(rand.NewSource(5))
	k := kinds{traces: 4, ids: 4, ends: 50, wide: 30}
	for range 20 {
		h, q := made(t, uint64(r.Intn(20)), 1+r.Intn(10), 1+r.Intn(900))
		for range 20 {
			tell(t, "R6: one behind another", h, q, k.noise(r))
		}
		check(t, "R6: one behind another", h, q)
		check(t, "R6: the first one", first, p)
	}
	one, a := made(t, 3, 5, 2000)
	other, b := made(t, 4, 6, 1000)
	for range 200 {
		tell(t, "R6: one of two", one, a, k.noise(r))
		tell(t, "R6: the other of two", other, b, k.noise(r))
		check(t, "R6: one of two", one, a)
		check(t, "R6: the other of two", other, b)
	}
}

// TestP15_1AskingChangesNothing asks one of two shards for all between the calls.
func TestP15_1AskingChangesNothing(t *testing.T) {
	r := rand.New(rand.NewSource(6))
	k := kinds{traces: 5, ids: 4, ends: 20, wide: 30}
	asked, p := made(t, 1, 9, 1500)
	other, q := made(t, 1, 9, 1500)
	for range 300 {
		s := k.noise(r)
		tell(t, "P15.1: asked", asked, p, s)
		check(t, "P15.1: asked", asked, p)
		tell(t, "P15.1: not asked", other, q, s)
	}
	check(t, "P15.1: asked at the end alone", other, q)
}

// TestWaysAMapOfMaps: a shard's traces are a map of maps, and it shows nothing of what it has.
func TestWaysAMapOfMaps(t *testing.T) {
	if x := reflect.TypeOf(empty(0, load{}).traces); x != reflect.TypeFor[map[uint64]map[uint64]api.Span]() {
		t.Errorf("Ways: traces are a %v", x)
	}
	var names []string
	h := reflect.TypeFor[*Shard]()
	for i := range h.NumMethod() {
		names = append(names, h.Method(i).Name)
	}
	if !slices.Equal(names, []string{"Add", "Deadline", "Due", "Held", "Take", "Traces"}) {
		t.Errorf("Ways: a shard has %q", names)
	}
	for i := range h.Elem().NumField() {
		if h.Elem().Field(i).IsExported() {
			t.Errorf("Ways: a shard shows its %s", h.Elem().Field(i).Name)
		}
	}
}

// TestR6NothingIsLeft: of traces that were taken, or are gone, nothing stays in a shard.
func TestR6NothingIsLeft(t *testing.T) {
	h, _ := made(t, 5, 20, 3000)
	r := rand.New(rand.NewSource(7))
	k := kinds{traces: 9, ids: 4, ends: 20, wide: 30}
	for range 500 {
		h.Add(k.noise(r))
		in := h.in
		if len(in.traces) != in.deadlines.Len() || len(in.traces) != len(in.ends) {
			t.Fatalf("R6: %d traces, %d deadlines, %d lists of ends", len(in.traces), in.deadlines.Len(), len(in.ends))
		}
	}
	for _, trace := range h.Traces() {
		h.Take(trace)
	}
	if in := h.in; len(in.traces) != 0 || in.deadlines.Len() != 0 || len(in.ends) != 0 || in.held != (load{}) {
		t.Errorf("R6: all taken: %v", in)
	}
}

func FuzzShard(f *testing.F) {
	r := rand.New(rand.NewSource(8))
	some := func(n int) []byte {
		b := make([]byte, 6*n)
		r.Read(b)
		return b
	}
	f.Add(uint64(10), 3, 1000, some(20))
	f.Add(uint64(0), 1, 1, some(20))
	f.Add(uint64(most), many, most, some(40))
	f.Add(uint64(most+1), 0, 0, some(1))
	f.Add(uint64(3), 10, 900, some(60))
	f.Fuzz(func(t *testing.T, gap uint64, spans, bytes int, b []byte) {
		h, e := New(gap, spans, bytes)
		right := gap <= most && spans >= 1 && spans <= many && bytes >= 1 && bytes <= most
		if right != (e == api.OK) || right != (h != nil) {
			t.Fatalf("P15.1: New(%d, %d, %d) = %v, %d", gap, spans, bytes, h, e)
		}
		p := &plain{gap: gap, spans: spans, bytes: bytes}
		for ; right && len(b) >= 6; b = b[6:] {
			trace := uint64(b[0] % 8)
			s := from(uint64(b[1]>>4), one(trace, uint64(b[1]%16), uint64(binary.LittleEndian.Uint16(b[2:]))))
			s.Name = strings.Repeat("n", int(b[4]))
			for i := range b[5] % 18 {
				s.Attrs = append(s.Attrs, intAttr("k"+strconv.Itoa(int(i)), int64(b[5])))
			}
			switch {
			case b[0] >= 200:
				takeOff(t, "P15.1", h, p, trace)
			case span.Check(s) != api.OK:
				if f, e := h.Add(s); e != api.ErrArg || len(f.Twice) != 0 || len(f.Gone) != 0 {
					t.Fatalf("P15.2: Add(%v) = %v, %d", s, f, e)
				}
			default:
				tell(t, "P15.2", h, p, s)
			}
			check(t, "P15", h, p)
		}
	})
}
