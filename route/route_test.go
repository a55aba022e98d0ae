package route

import (
	"cmp"
	"encoding/binary"
	"go/ast"
	"go/parser"
	"go/token"
	"math"
	"math/rand"
	"reflect"
	"slices"
	"strconv"
	"strings"
	"testing"

	"tallyroom/api"
	"tallyroom/digest"
	"tallyroom/shard"
	"tallyroom/span"
)

const (
	end    = math.MaxUint64
	most   = 1 << 62 // of a gap, of an End, and of bytes
	many   = 65536   // the most spans of a shard
	little = 66      // the size of one
)

// numbers of shards that the tests go through.
var numbers = []int{1, 2, 3, 7, 16, 63, 64}

// places where no shard is, whatever their number.
var nowhere = []int{-1, -2, -64, 64, 65, 1 << 32, math.MinInt, math.MinInt + 1, math.MaxInt - 1, math.MaxInt}

// strangers are traces, and marks, that the tests ask for beside those that are there.
var strangers = []uint64{0, 1, 2, 3, 1 << 32, 1<<62 - 1, 1 << 62, 1<<63 - 1, 1 << 63, 1<<63 + 1, end - 1, end}

// one is a span of the least size that the tests have.
func one(trace, id, end uint64) api.Span {
	return api.Span{Trace: trace, ID: id, Service: "s", Name: "n", End: end}
}

// with is one with attributes.
func with(s api.Span, l ...api.Attr) api.Span {
	s.Attrs = l
	return s
}

// wide is one with a size.
func wide(trace, id, end uint64, size int) api.Span {
	s := one(trace, id, end)
	s.Name = strings.Repeat("n", size-little+1)
	return s
}

func textAttr(key, text string) api.Attr {
	return api.Attr{Key: key, V: api.Value{Kind: api.KText, S: text}}
}

func intAttr(key string, n int64) api.Attr {
	return api.Attr{Key: key, V: api.Value{Kind: api.KInt, N: n}}
}

// like is whether two spans have the same in them.
func like(a, b api.Span) bool {
	if !slices.Equal(a.Attrs, b.Attrs) {
		return false
	}
	a.Attrs, b.Attrs = nil, nil
	return reflect.DeepEqual(a, b)
}

func likeAll(a, b []api.Span) bool { return slices.EqualFunc(a, b, like) }

func likeLists(a, b [][]api.Span) bool { return slices.EqualFunc(a, b, likeAll) }

func likeFates(a, b shard.Fate) bool { return likeAll(a.Twice, b.Twice) && likeAll(a.Gone, b.Gone) }

func nothing(f shard.Fate) bool { return likeFates(f, shard.Fate{}) }

func clones(l []api.Span) []api.Span {
	out := slices.Clone(l)
	for i := range out {
		out[i].Attrs = slices.Clone(out[i].Attrs)
	}
	return out
}

func cloneLists(l [][]api.Span) [][]api.Span {
	var out [][]api.Span
	for _, x := range l {
		out = append(out, clones(x))
	}
	return out
}

// belonging are the first traces of a part of so many.
func belonging(part, of, count int) []uint64 {
	var l []uint64
	for trace := uint64(1); len(l) < count; trace++ {
		if digest.Part(trace, of) == part {
			l = append(l, trace)
		}
	}
	return l
}

// plain is the house by the document's words: all spans that wait, of whatever shard, stand in one list that is gone
// through, and all else is reckoned from them when it is asked.
type plain struct {
	shards       int
	gap          uint64
	spans, bytes int
	list         []api.Span
}

func (p *plain) part(trace uint64) int { return digest.Part(trace, p.shards) }

func sizeOf(s api.Span) int {
	texts := []string{s.Service, s.Name}
	for _, a := range s.Attrs {
		texts = append(texts, a.Key, a.V.S)
	}
	return 64 + 16*len(s.Attrs) + len(strings.Join(texts, ""))
}

func (p *plain) held(i int) (spans, bytes int) {
	for _, s := range p.list {
		if p.part(s.Trace) == i {
			spans, bytes = spans+1, bytes+sizeOf(s)
		}
	}
	return spans, bytes
}

// deadlines are those of all open traces, of all shards.
func (p *plain) deadlines() map[uint64]uint64 {
	at := map[uint64]uint64{}
	for _, s := range p.list {
		at[s.Trace] = max(at[s.Trace], s.End+p.gap)
	}
	return at
}

// due are a shard's traces that are due.
func (p *plain) due(i int, mark uint64) []uint64 {
	var l []uint64
	at := p.deadlines()
	for trace, deadline := range at {
		if p.part(trace) == i && deadline <= mark {
			l = append(l, trace)
		}
	}
	slices.SortFunc(l, func(a, b uint64) int { return cmp.Or(cmp.Compare(at[a], at[b]), cmp.Compare(a, b)) })
	return l
}

func (p *plain) take(trace uint64) []api.Span {
	var taken, left []api.Span
	for _, s := range p.list {
		if s.Trace == trace {
			taken = append(taken, s)
		} else {
			left = append(left, s)
		}
	}
	p.list = left
	slices.SortFunc(taken, span.Compare)
	return taken
}

func (p *plain) close(i int, mark uint64) [][]api.Span {
	var l [][]api.Span
	for _, trace := range p.due(i, mark) {
		l = append(l, p.take(trace))
	}
	return l
}

func (p *plain) rest() [][]api.Span {
	var l [][]api.Span
	for i := range p.shards {
		l = append(l, p.close(i, end)...)
	}
	return l
}

func (p *plain) add(s api.Span) shard.Fate {
	var f shard.Fate
	i := slices.IndexFunc(p.list, func(x api.Span) bool { return x.Trace == s.Trace && x.ID == s.ID })
	switch {
	case i < 0:
		p.list = append(p.list, s)
	case span.Compare(p.list[i], s) <= 0:
		f.Twice = append(f.Twice, s)
	default:
		f.Twice = append(f.Twice, p.list[i])
		p.list[i] = s
	}
	part := p.part(s.Trace)
	for {
		spans, bytes := p.held(part)
		if spans <= p.spans && bytes <= p.bytes {
			return f
		}
		f.Gone = append(f.Gone, p.take(p.due(part, end)[0])...)
	}
}

func made(t *testing.T, shards int, gap uint64, spans, bytes int) (*House, *plain) {
	t.Helper()
	h, e := New(shards, gap, spans, bytes)
	if e != api.OK || h == nil {
		t.Fatalf("P16.1: New(%d, %d, %d, %d) = %v, %d", shards, gap, spans, bytes, h, e)
	}
	return h, &plain{shards: shards, gap: gap, spans: spans, bytes: bytes}
}

// roomy is one in which none has to go, by far.
func roomy(t *testing.T, shards int, gap uint64) (*House, *plain) {
	t.Helper()
	return made(t, shards, gap, many, most)
}

// check asks for all that a house tells and leaves as it is.
func check(t *testing.T, what string, h *House, p *plain) {
	t.Helper()
	for i := range p.shards {
		spans, bytes := h.Held(i)
		if n, b := p.held(i); spans != n || bytes != b || spans > p.spans || bytes > p.bytes {
			t.Errorf("%s: Held(%d) = %d, %d, want %d, %d, and at most %d, %d", what, i, spans, bytes, n, b, p.spans, p.bytes)
		}
	}
	for _, i := range append(slices.Clone(nowhere), p.shards, p.shards+1) {
		if i >= 0 && i < p.shards {
			continue
		}
		if spans, bytes := h.Held(i); spans != 0 || bytes != 0 {
			t.Errorf("%s: Held(%d) = %d, %d, but there is no such shard", what, i, spans, bytes)
		}
	}
	open := p.deadlines()
	if n := h.Traces(); n != len(open) {
		t.Errorf("%s: Traces() = %d, want %d", what, n, len(open))
	}
	for trace := range open {
		if !h.Open(trace) {
			t.Errorf("%s: Open(%d) is false, it has waiting spans", what, trace)
		}
		for _, next := range []uint64{trace - 1, trace + 1} {
			if _, there := open[next]; h.Open(next) != there {
				t.Errorf("%s: Open(%d) is %v", what, next, !there)
			}
		}
	}
	for _, trace := range strangers {
		if _, there := open[trace]; h.Open(trace) != there {
			t.Errorf("%s: Open(%d) is %v", what, trace, !there)
		}
	}
}

// tell adds a span to both, and holds what is told against one another.
func tell(t *testing.T, what string, h *House, p *plain, s api.Span) shard.Fate {
	t.Helper()
	want := p.add(s)
	f, e := h.Add(s)
	if e != api.OK || !likeFates(f, want) {
		t.Errorf("%s: Add(%v) = %v, %d, want %v; of %d shards at most %d, %d", what, s, f, e, want, p.shards, p.spans, p.bytes)
	}
	return f
}

// follow adds spans one by one, and checks behind each.
func follow(t *testing.T, what string, h *House, p *plain, l ...api.Span) {
	t.Helper()
	check(t, what+": at first", h, p)
	for i, s := range l {
		tell(t, what, h, p, s)
		check(t, what+": behind "+strconv.Itoa(i), h, p)
	}
}

// shut closes a shard of both, and checks what is left.
func shut(t *testing.T, what string, h *House, p *plain, i int, mark uint64) [][]api.Span {
	t.Helper()
	want := p.close(i, mark)
	l, e := h.Close(i, mark)
	if e != api.OK || !likeLists(l, want) {
		t.Errorf("%s: Close(%d, %d) = %v, %d, want %v; of %d shards", what, i, mark, l, e, want, p.shards)
	}
	check(t, what+": behind Close", h, p)
	return l
}

// finish takes all that is left off both.
func finish(t *testing.T, what string, h *House, p *plain) [][]api.Span {
	t.Helper()
	want := p.rest()
	l := h.Rest()
	if !likeLists(l, want) {
		t.Errorf("%s: Rest() = %v, want %v; of %d shards", what, l, want, p.shards)
	}
	if n := h.Traces(); n != 0 {
		t.Errorf("%s: behind Rest: Traces() = %d", what, n)
	}
	check(t, what+": behind Rest", h, p)
	return l
}

// refuse adds a span that may not be.
func refuse(t *testing.T, what string, h *House, s api.Span) {
	t.Helper()
	if f, e := h.Add(s); e != api.ErrArg || !nothing(f) {
		t.Errorf("%s: Add(%v) = %v, %d", what, s, f, e)
	}
}

// kinds is what noise is made of.
type kinds struct {
	traces, ids int
	ends        uint64
	wide        int // how far above the least size
}

// noise is a span of few kinds: of one trace and ID they differ in all that span.Compare looks at.
func (k kinds) noise(r *rand.Rand) api.Span {
	s := api.Span{
		Trace: 1 + uint64(r.Intn(k.traces)), ID: 1 + uint64(r.Intn(k.ids)), Parent: uint64(r.Intn(3)),
		Service: "ab"[r.Intn(2):], Name: "n" + strings.Repeat("m", r.Intn(k.wide+1)),
		Kind: r.Intn(5), Status: r.Intn(3), End: r.Uint64() % (k.ends + 1),
	}
	s.Start = s.End / (1 + r.Uint64()%3)
	for i := range r.Intn(4) {
		s.Attrs = append(s.Attrs, []api.Attr{
			intAttr("k"+strconv.Itoa(i), r.Int63n(3)),
			textAttr("k"+strconv.Itoa(i), "xyz"[r.Intn(4):]),
			{Key: "k" + strconv.Itoa(i), V: api.Value{Kind: api.KBool, N: r.Int63n(2)}},
		}[r.Intn(3)])
	}
	return s
}

// badSpans are some that may not be, of a trace, by what is wrong with them.
func badSpans(trace uint64) map[string]api.Span {
	edit := func(f func(*api.Span)) api.Span {
		s := one(trace, 1, 5)
		f(&s)
		return s
	}
	return map[string]api.Span{
		"no trace":               edit(func(s *api.Span) { s.Trace = 0 }),
		"no ID":                  edit(func(s *api.Span) { s.ID = 0 }),
		"an end ahead":           edit(func(s *api.Span) { s.Start = 6 }),
		"an end too late":        edit(func(s *api.Span) { s.End = most + 1 }),
		"the last end":           edit(func(s *api.Span) { s.End = end }),
		"a kind below":           edit(func(s *api.Span) { s.Kind = -1 }),
		"a kind above":           edit(func(s *api.Span) { s.Kind = 5 }),
		"the least status":       edit(func(s *api.Span) { s.Status = math.MinInt }),
		"a status above":         edit(func(s *api.Span) { s.Status = 3 }),
		"no service":             edit(func(s *api.Span) { s.Service = "" }),
		"no name":                edit(func(s *api.Span) { s.Name = "" }),
		"a long name":            edit(func(s *api.Span) { s.Name = strings.Repeat("n", 4097) }),
		"a key that is none":     edit(func(s *api.Span) { s.Attrs = []api.Attr{intAttr("", 1)} }),
		"a key twice":            edit(func(s *api.Span) { s.Attrs = []api.Attr{intAttr("a", 1), intAttr("a", 2)} }),
		"a value that is none":   edit(func(s *api.Span) { s.Attrs = []api.Attr{{Key: "a"}} }),
		"too many attributes":    edit(func(s *api.Span) { s.Attrs = make([]api.Attr, 17) }),
		"nothing":                {},
		"nothing beside a trace": {Trace: trace},
	}
}

// TestP16Example: with one shard all traces belong to it.
func TestP16Example(t *testing.T) {
	h, p := roomy(t, 1, 10)
	l := []uint64{1, 2, 3, 1 << 32, 1 << 63, end - 1, end}
	var want [][]api.Span
	for i, trace := range l {
		s := one(trace, 1, uint64(50+i))
		follow(t, "P16.1: the example", h, p, s)
		want = append(want, []api.Span{s})
		if n, b := h.Held(0); n != i+1 || b != (i+1)*little || h.Traces() != i+1 || !h.Open(trace) {
			t.Errorf("P16.1: Held(0) = %d, %d, Traces() = %d, Open = %v", n, b, h.Traces(), h.Open(trace))
		}
	}
	got, e := h.Close(0, 66)
	if e != api.OK || !likeLists(got, want) {
		t.Errorf("P16.2: Close(0, 66) = %v, %d, want %v", got, e, want)
	}
}

func TestP16_1New(t *testing.T) {
	shards := map[int]bool{
		1: true, 2: true, 3: true, 32: true, 63: true, 64: true, 0: false, -1: false, -2: false, -64: false, 65: false, 66: false,
		128: false, 1 << 16: false, 1 << 32: false, 1<<32 + 1: false, 1<<63 - 1: false, math.MinInt: false, math.MinInt + 1: false,
	}
	gaps := map[uint64]bool{
		0: true, 1: true, most - 1: true, most: true, most + 1: false, 1<<63 - 1: false, 1 << 63: false, 1<<63 + 1: false, end - 1: false,
		end: false,
	}
	spans := map[int]bool{
		1: true, 2: true, many - 1: true, many: true, 0: false, -1: false, many + 1: false, 1<<32 + 1: false, math.MinInt: false,
		math.MaxInt: false,
	}
	bytes := map[int]bool{
		1: true, 2: true, 1 << 40: true, most: true, 0: false, -1: false, most + 1: false, -most: false, math.MinInt: false,
		math.MaxInt: false,
	}
	for s, shardsRight := range shards {
		for gap, gapRight := range gaps {
			for n, spansRight := range spans {
				for b, bytesRight := range bytes {
					right := shardsRight && gapRight && spansRight && bytesRight
					h, e := New(s, gap, n, b)
					if (h != nil) != right || right && e != api.OK || !right && e != api.ErrArg {
						t.Fatalf("P16.1: New(%d, %d, %d, %d) = %v, %d", s, gap, n, b, h, e)
					}
				}
			}
		}
	}
}

// TestP16_1NewErrors: of what shard.New refuses a house has its error, whatever the number of shards.
func TestP16_1NewErrors(t *testing.T) {
	for _, x := range []struct {
		gap          uint64
		spans, bytes int
	}{
		{most, many, most}, {0, 1, 1}, {most + 1, 1, 1}, {end, 1, 1}, {0, 0, 1}, {0, -1, 1}, {0, many + 1, 1}, {0, math.MinInt, 1},
		{0, math.MaxInt, 1}, {0, 1, 0}, {0, 1, -1}, {0, 1, most + 1}, {0, 1, math.MinInt}, {0, 1, math.MaxInt}, {end, 0, 0},
	} {
		_, want := shard.New(x.gap, x.spans, x.bytes)
		for _, n := range numbers {
			if h, e := New(n, x.gap, x.spans, x.bytes); e != want || (h == nil) != (want != api.OK) {
				t.Errorf("P16.1: New(%d, %d, %d, %d) = %v, %d, want %d", n, x.gap, x.spans, x.bytes, h, e, want)
			}
		}
	}
}

// TestP16_1NewIsEmpty asks new houses for all.
func TestP16_1NewIsEmpty(t *testing.T) {
	for n := 1; n <= 64; n++ {
		h, p := made(t, n, 10, 5, 1000)
		check(t, "P16.1: New", h, p)
		for i := range n {
			shut(t, "P16.2: New", h, p, i, end)
		}
		finish(t, "P16.2: New", h, p)
	}
}

// TestP16_1AsManyAsNewSaid: there are as many shards as New was told, no more and no less.
func TestP16_1AsManyAsNewSaid(t *testing.T) {
	for n := 1; n <= 64; n++ {
		h, p := roomy(t, n, 0)
		for i := range n {
			if l, e := h.Close(i, end); e != api.OK || len(l) != 0 {
				t.Errorf("P16.2: of %d: Close(%d) = %v, %d", n, i, l, e)
			}
		}
		for i := n; i < 66; i++ {
			if l, e := h.Close(i, end); e != api.ErrArg || len(l) != 0 {
				t.Errorf("P16.2: of %d: Close(%d) = %v, %d", n, i, l, e)
			}
		}
		for i := range n {
			tell(t, "P16.1", h, p, one(belonging(i, n, 1)[0], 1, 5))
		}
		for i := range n {
			if spans, bytes := h.Held(i); spans != 1 || bytes != little {
				t.Errorf("P16.1: of %d: Held(%d) = %d, %d", n, i, spans, bytes)
			}
		}
	}
}

// TestP16_1AddToItsPart: a span goes to its trace's shard, and to no other.
func TestP16_1AddToItsPart(t *testing.T) {
	r := rand.New(rand.NewSource(1))
	for _, n := range numbers {
		h, _ := roomy(t, n, 3)
		spans, bytes := make([]int, n), make([]int, n)
		for i := range 400 {
			trace := []uint64{uint64(i + 1), r.Uint64() | 1, end - uint64(i), 1 << (i % 64)}[i%4]
			size := little + r.Intn(100)
			if f, e := h.Add(wide(trace, uint64(i+1), 9, size)); e != api.OK || !nothing(f) {
				t.Fatalf("P16.1: Add = %v, %d", f, e)
			}
			spans[digest.Part(trace, n)]++
			bytes[digest.Part(trace, n)] += size
			for k := range n {
				if s, b := h.Held(k); s != spans[k] || b != bytes[k] {
					t.Fatalf("P16.1: of %d: Held(%d) = %d, %d, want %d, %d", n, k, s, b, spans[k], bytes[k])
				}
			}
		}
	}
}

// TestP16_1PartKnown: parts that are reckoned by hand from the eight bytes.
func TestP16_1PartKnown(t *testing.T) {
	for _, n := range numbers {
		for _, trace := range []uint64{1, 2, 255, 256, 1 << 40, end} {
			sum := uint64(14695981039346656037)
			for _, c := range binary.LittleEndian.AppendUint64(nil, trace) {
				sum = (sum ^ uint64(c)) * 1099511628211
			}
			h, _ := roomy(t, n, 0)
			h.Add(one(trace, 1, 5))
			if spans, _ := h.Held(int(sum % uint64(n))); spans != 1 {
				t.Errorf("P16.1: of %d: the trace %d isn't in %d", n, trace, sum%uint64(n))
			}
		}
	}
}

// TestP16_1Twice: of one trace and ID the lesser span is kept, and the other one told; of two traces none is twice, be it
// in one shard.
func TestP16_1Twice(t *testing.T) {
	for _, n := range numbers {
		traces := belonging(n-1, n, 2)
		a, b := traces[0], traces[1]
		h, p := roomy(t, n, 10)
		follow(t, "P16.1", h, p, one(a, 2, 50), one(b, 2, 40))
		if f := tell(t, "P16.1", h, p, one(a, 2, 40)); !likeAll(f.Twice, []api.Span{one(a, 2, 50)}) || len(f.Gone) != 0 {
			t.Errorf("P16.1: Add = %v", f)
		}
		if f := tell(t, "P16.1", h, p, one(b, 2, 40)); !likeAll(f.Twice, []api.Span{one(b, 2, 40)}) || len(f.Gone) != 0 {
			t.Errorf("P16.1: Add = %v", f)
		}
		check(t, "P16.1", h, p)
		finish(t, "P16.2", h, p)
	}
}

// TestP16_1OneIsFull: where one shard is full its trace with the least deadline goes, and the others' stay, be their
// deadlines less.
func TestP16_1OneIsFull(t *testing.T) {
	for _, n := range numbers[1:] {
		for full := range n {
			mine, others := belonging(full, n, 4), belonging((full+1)%n, n, 2)
			for what, x := range map[string]struct{ spans, bytes int }{"spans": {3, most}, "bytes": {many, 3*little + 65}} {
				h, p := made(t, n, 5, x.spans, x.bytes)
				follow(t, "P16.1: full of "+what, h, p, one(others[0], 1, 1), one(others[1], 1, 2))
				follow(t, "P16.1: full of "+what, h, p, one(mine[0], 1, 30), one(mine[1], 1, 20), one(mine[1], 2, 10))
				f := tell(t, "P16.1: full of "+what, h, p, one(mine[2], 1, 40))
				if want := []api.Span{one(mine[1], 1, 20), one(mine[1], 2, 10)}; len(f.Twice) != 0 || !likeAll(f.Gone, want) {
					t.Errorf("P16.1: full of %s: Add = %v, want %v gone", what, f, want)
				}
				if h.Open(mine[1]) || !h.Open(mine[0]) || !h.Open(mine[2]) || !h.Open(others[0]) || !h.Open(others[1]) || h.Traces() != 4 {
					t.Errorf("P16.1: full of %s: Traces() = %d", what, h.Traces())
				}
				// One that is Twice makes no room, one that is wider than all its shard may hold goes with all else there.
				follow(t, "P16.1: full of "+what, h, p, one(mine[0], 1, 30), one(mine[0], 1, 25), wide(mine[3], 1, 50, 3*little+66))
				finish(t, "P16.1: full of "+what, h, p)
			}
		}
	}
}

// TestP16_1EachHasTheLimits: each shard has room for as many as New was told, not all together.
func TestP16_1EachHasTheLimits(t *testing.T) {
	for _, n := range []int{1, 2, 7, 64} {
		h, p := made(t, n, 0, 3, 3*little)
		for i := range n {
			for _, trace := range belonging(i, n, 3) {
				if f := tell(t, "P16.1: each has room", h, p, one(trace, 1, 5)); !nothing(f) {
					t.Errorf("P16.1: of %d: the shard %d: Add = %v", n, i, f)
				}
			}
		}
		check(t, "P16.1: each has room", h, p)
		if h.Traces() != 3*n {
			t.Errorf("P16.1: of %d: Traces() = %d", n, h.Traces())
		}
		for i := range n {
			trace := belonging(i, n, 4)[3]
			if f := tell(t, "P16.1: each is full", h, p, one(trace, 1, 6)); !likeAll(f.Gone, []api.Span{one(belonging(i, n, 1)[0], 1, 5)}) {
				t.Errorf("P16.1: of %d: the shard %d: Add = %v", n, i, f)
			}
		}
		check(t, "P16.1: each is full", h, p)
	}
}

// TestP16_1AddLikeAShard: what Add tells is what shards beside the house tell, each of which is given its part.
func TestP16_1AddLikeAShard(t *testing.T) {
	for seed := range int64(20) {
		r := rand.New(rand.NewSource(seed))
		n, gap, spans, bytes := 1+r.Intn(8), uint64(r.Intn(9)), 1+r.Intn(6), 100+r.Intn(900)
		h, _ := made(t, n, gap, spans, bytes)
		var beside []*shard.Shard
		for range n {
			one, _ := shard.New(gap, spans, bytes)
			beside = append(beside, one)
		}
		k := kinds{traces: 30, ids: 3, ends: 40, wide: 40}
		for range 300 {
			s := k.noise(r)
			own := beside[digest.Part(s.Trace, n)]
			want, _ := own.Add(s)
			if f, e := h.Add(s); e != api.OK || !likeFates(f, want) {
				t.Errorf("P16.1: Add(%v) = %v, %d, want %v", s, f, e, want)
			}
			traces := 0
			for i, one := range beside {
				a, b := one.Held()
				if x, y := h.Held(i); x != a || y != b {
					t.Errorf("P16.1: Held(%d) = %d, %d, want %d, %d", i, x, y, a, b)
				}
				traces += len(one.Traces())
			}
			if h.Traces() != traces {
				t.Errorf("P16.1: Traces() = %d, want %d", h.Traces(), traces)
			}
		}
	}
}

// TestP16_1AddMayNotBe: a span that may not be is refused, and nothing changes, be the house empty, filled, or full.
func TestP16_1AddMayNotBe(t *testing.T) {
	for _, n := range numbers {
		for _, spans := range []int{1, 2, many} {
			h, p := made(t, n, 5, spans, most)
			for trace := range uint64(4) {
				for what, s := range badSpans(trace + 1) {
					refuse(t, "P16.1: "+what, h, s)
				}
				check(t, "P16.1: may not be", h, p)
				follow(t, "P16.1: may be", h, p, one(trace+1, 1, 9), one(trace+1, 1, 7))
			}
			finish(t, "P16.1: may not be", h, p)
		}
	}
}

func TestP16_1Open(t *testing.T) {
	for _, n := range numbers {
		h, p := made(t, n, 5, 2, most)
		traces := belonging(n/2, n, 4)
		a, b, c, d := traces[0], traces[1], traces[2], traces[3]
		opens := func(what string, want ...bool) {
			t.Helper()
			for i, trace := range traces {
				if h.Open(trace) != want[i] {
					t.Errorf("P16.1: of %d: %s: Open(%d) is %v", n, what, trace, !want[i])
				}
			}
		}
		opens("at first", false, false, false, false)
		tell(t, "P16.1", h, p, one(a, 1, 5))
		opens("one is added", true, false, false, false)
		tell(t, "P16.1", h, p, one(b, 1, 6))
		opens("two are added", true, true, false, false)
		tell(t, "P16.1", h, p, one(c, 1, 7))
		opens("the first one is gone", false, true, true, false)
		tell(t, "P16.1", h, p, one(d, 1, 1))
		opens("gone with the span that came", false, true, true, false)
		shut(t, "P16.2", h, p, n/2, 11)
		opens("one is closed", false, false, true, false)
		tell(t, "P16.1", h, p, one(b, 1, 20))
		opens("one is there again", false, true, true, false)
		finish(t, "P16.2", h, p)
		opens("all are told", false, false, false, false)
		tell(t, "P16.1", h, p, one(c, 1, 7))
		opens("one is there behind it", false, false, true, false)
	}
}

func TestP16_1HeldOfNone(t *testing.T) {
	for _, n := range numbers {
		h, p := roomy(t, n, 0)
		for i := range uint64(200) {
			tell(t, "P16.1", h, p, one(i+1, 1, 5))
		}
		for _, i := range slices.Concat(nowhere, []int{n, n + 1, -n, n + 1<<32, math.MinInt + n}) {
			if i >= 0 && i < n {
				continue
			}
			if spans, bytes := h.Held(i); spans != 0 || bytes != 0 {
				t.Errorf("P16.1: of %d: Held(%d) = %d, %d", n, i, spans, bytes)
			}
		}
		sum := 0
		for i := range n {
			spans, bytes := h.Held(i)
			if spans == 0 || bytes != spans*little {
				t.Errorf("P16.1: of %d: Held(%d) = %d, %d", n, i, spans, bytes)
			}
			sum += spans
		}
		if sum != 200 {
			t.Errorf("P16.1: of %d: %d are held in all", n, sum)
		}
	}
}

func TestP16_1TracesBehindEachCall(t *testing.T) {
	h, p := made(t, 3, 5, 4, most)
	want := func(what string, n int) {
		t.Helper()
		if h.Traces() != n {
			t.Errorf("P16.1: %s: Traces() = %d, want %d", what, h.Traces(), n)
		}
	}
	a, b, c := belonging(0, 3, 5), belonging(1, 3, 2), belonging(2, 3, 1)
	want("at first", 0)
	for i, s := range []api.Span{one(a[0], 1, 5), one(b[0], 1, 6), one(c[0], 1, 7), one(a[1], 1, 8), one(a[2], 1, 9), one(b[1], 1, 2)} {
		tell(t, "P16.1", h, p, s)
		want("one more", i+1)
	}
	tell(t, "P16.1", h, p, one(a[0], 2, 4))
	want("a further span", 6)
	tell(t, "P16.1", h, p, one(a[0], 2, 3))
	want("a span twice", 6)
	tell(t, "P16.1", h, p, one(a[3], 1, 3))
	want("the span's own trace is gone", 6)
	tell(t, "P16.1", h, p, one(a[4], 1, 11))
	want("a trace of two spans is gone", 6)
	refuse(t, "P16.1", h, api.Span{})
	want("one that may not be", 6)
	shut(t, "P16.2", h, p, 1, 6)
	want("nothing is due", 6)
	shut(t, "P16.2", h, p, 1, 7)
	want("one is due", 5)
	h.Close(3, end)
	h.Close(-1, end)
	want("no shard", 5)
	shut(t, "P16.2", h, p, 0, end)
	want("three are due", 2)
	finish(t, "P16.2", h, p)
	want("all are told", 0)
	finish(t, "P16.2", h, p)
	want("all are told twice", 0)
}

// filled is a house in each shard of which are traces with the deadlines 15 (two of them), 16, 25 and 10, not in their
// order, some with more spans.
func filled(t *testing.T, shards int) (*House, *plain) {
	h, p := roomy(t, shards, 5)
	for i := range shards {
		l := belonging(i, shards, 5)
		for _, s := range []api.Span{
			one(l[4], 3, 10), one(l[4], 1, 7), one(l[2], 2, 10), one(l[1], 9, 20), one(l[1], 8, 3), one(l[0], 1, 11), one(l[1], 8, 4),
			one(l[3], 1, 5), one(l[2], 1, 10), one(l[4], 2, 10), with(one(l[2], 3, 9), intAttr("a", 1), textAttr("b", "c")),
		} {
			tell(t, "P16.2: filled", h, p, s)
		}
	}
	return h, p
}

func TestP16_2CloseKnown(t *testing.T) {
	for _, n := range numbers {
		for i := range n {
			if i%9 > 1 && i < n-1 {
				continue
			}
			h, p := filled(t, n)
			l := belonging(i, n, 5)
			shut(t, "P16.2", h, p, i, 0)
			shut(t, "P16.2", h, p, i, 9)
			want := [][]api.Span{{one(l[3], 1, 5)}}
			if got := shut(t, "P16.2", h, p, i, 14); !likeLists(got, want) {
				t.Errorf("P16.2: of %d: Close(%d, 14) = %v, want %v", n, i, got, want)
			}
			want = [][]api.Span{
				{one(l[2], 1, 10), one(l[2], 2, 10), with(one(l[2], 3, 9), intAttr("a", 1), textAttr("b", "c"))},
				{one(l[4], 1, 7), one(l[4], 2, 10), one(l[4], 3, 10)},
				{one(l[0], 1, 11)},
			}
			if got := shut(t, "P16.2", h, p, i, 24); !likeLists(got, want) {
				t.Errorf("P16.2: of %d: Close(%d, 24) = %v, want %v", n, i, got, want)
			}
			if h.Open(l[0]) || !h.Open(l[1]) || h.Open(l[2]) || h.Open(l[3]) || h.Open(l[4]) || h.Traces() != 5*n-4 {
				t.Errorf("P16.2: of %d: behind Close(%d, 24): Traces() = %d", n, i, h.Traces())
			}
			want = [][]api.Span{{one(l[1], 8, 3), one(l[1], 9, 20)}}
			if got := shut(t, "P16.2", h, p, i, end); !likeLists(got, want) {
				t.Errorf("P16.2: of %d: Close(%d, 2^64 - 1) = %v, want %v", n, i, got, want)
			}
			if spans, bytes := h.Held(i); spans != 0 || bytes != 0 || h.Traces() != 5*n-5 {
				t.Errorf("P16.2: of %d: all of %d are closed: Held = %d, %d, Traces() = %d", n, i, spans, bytes, h.Traces())
			}
			finish(t, "P16.2: the others", h, p)
		}
	}
}

// TestP16_2CloseAtMarks closes a shard of a house just filled at marks around each deadline.
func TestP16_2CloseAtMarks(t *testing.T) {
	for _, n := range []int{1, 2, 7} {
		for i := range n {
			for _, x := range []struct {
				mark uint64
				due  int
			}{
				{0, 0}, {1, 0}, {9, 0}, {10, 1}, {11, 1}, {14, 1}, {15, 3}, {16, 4}, {17, 4}, {24, 4}, {25, 5}, {26, 5}, {most, 5},
				{1<<63 - 1, 5}, {1 << 63, 5}, {end - 1, 5}, {end, 5},
			} {
				h, p := filled(t, n)
				if l := shut(t, "P16.2", h, p, i, x.mark); len(l) != x.due {
					t.Errorf("P16.2: Close(%d, %d) tells %d traces, want %d", i, x.mark, len(l), x.due)
				}
				if l := shut(t, "P16.2: again", h, p, i, x.mark); len(l) != 0 {
					t.Errorf("P16.2: Close(%d, %d) again tells %v", i, x.mark, l)
				}
			}
		}
	}
}

// TestP16_2CloseOfGreatDeadlines: deadlines of 2^63, and of 0.
func TestP16_2CloseOfGreatDeadlines(t *testing.T) {
	for _, n := range numbers {
		l := belonging(0, n, 3)
		h, p := roomy(t, n, most)
		follow(t, "P16.2", h, p, one(l[0], 1, most), one(l[1], 1, 0), one(l[2], 1, most-1))
		for _, x := range []struct {
			mark uint64
			want [][]api.Span
		}{
			{most - 1, nil},
			{most, [][]api.Span{{one(l[1], 1, 0)}}},
			{1<<63 - 2, nil},
			{1<<63 - 1, [][]api.Span{{one(l[2], 1, most-1)}}},
			{1 << 63, [][]api.Span{{one(l[0], 1, most)}}},
			{end, nil},
		} {
			if got := shut(t, "P16.2", h, p, 0, x.mark); !likeLists(got, x.want) {
				t.Errorf("P16.2: of %d: Close(0, %d) = %v, want %v", n, x.mark, got, x.want)
			}
		}
		h, p = roomy(t, n, 0)
		follow(t, "P16.2", h, p, one(l[0], 1, 0), one(l[1], 1, 1))
		if got := shut(t, "P16.2", h, p, 0, 0); !likeLists(got, [][]api.Span{{one(l[0], 1, 0)}}) {
			t.Errorf("P16.2: of %d: Close(0, 0) = %v", n, got)
		}
	}
}

func TestP16_2CloseOfNone(t *testing.T) {
	for _, n := range numbers {
		h, p := filled(t, n)
		for _, i := range slices.Concat(nowhere, []int{n, n + 1, -n, n + 1<<32, -n - 1<<32}) {
			if i >= 0 && i < n {
				continue
			}
			for _, mark := range []uint64{0, 15, end} {
				if l, e := h.Close(i, mark); e != api.ErrArg || len(l) != 0 {
					t.Errorf("P16.2: of %d: Close(%d, %d) = %v, %d", n, i, mark, l, e)
				}
			}
		}
		check(t, "P16.2: Close of none", h, p)
		finish(t, "P16.2: Close of none", h, p)
	}
}

// TestP16_2RestKnown: shard by shard, though the deadlines of a later one are less.
func TestP16_2RestKnown(t *testing.T) {
	a, b, c := belonging(0, 3, 3), belonging(1, 3, 1), belonging(2, 3, 2)
	h, p := roomy(t, 3, 5)
	follow(t, "P16.2", h, p,
		one(c[0], 1, 4), one(a[1], 2, 30), one(a[2], 1, 20), one(b[0], 1, 1), one(a[0], 1, 30), one(c[1], 1, 2), one(a[1], 1, 7))
	want := [][]api.Span{
		{one(a[2], 1, 20)}, {one(a[0], 1, 30)}, {one(a[1], 1, 7), one(a[1], 2, 30)}, {one(b[0], 1, 1)}, {one(c[1], 1, 2)}, {one(c[0], 1, 4)},
	}
	if got := finish(t, "P16.2", h, p); !likeLists(got, want) {
		t.Errorf("P16.2: Rest() = %v, want %v", got, want)
	}
	if l := h.Rest(); len(l) != 0 {
		t.Errorf("P16.2: Rest() again = %v", l)
	}
	follow(t, "P16.2: behind Rest", h, p, one(c[0], 1, 4), one(a[1], 2, 30), one(a[1], 2, 31))
	want = [][]api.Span{{one(a[1], 2, 30)}, {one(c[0], 1, 4)}}
	if got := finish(t, "P16.2", h, p); !likeLists(got, want) {
		t.Errorf("P16.2: Rest() = %v, want %v", got, want)
	}
}

// TestP16_2RestOfAll: of each number of shards, with each of them filled.
func TestP16_2RestOfAll(t *testing.T) {
	for _, n := range numbers {
		h, p := filled(t, n)
		l := finish(t, "P16.2", h, p)
		if len(l) != 5*n {
			t.Errorf("P16.2: of %d: Rest() tells %d traces", n, len(l))
		}
		for i, spans := range l {
			if digest.Part(spans[0].Trace, n) != i/5 {
				t.Errorf("P16.2: of %d: Rest() tells the trace %d as number %d", n, spans[0].Trace, i)
			}
		}
	}
}

// TestP16_2RestOfGreatDeadlines: where a gap and an End are 2^62 each, none is left.
func TestP16_2RestOfGreatDeadlines(t *testing.T) {
	for _, n := range numbers {
		h, p := roomy(t, n, most)
		for i := range n {
			l := belonging(i, n, 3)
			follow(t, "P16.2", h, p, one(l[2], 1, most), one(l[1], 1, most-1), one(l[0], 1, most), one(l[1], 2, 0))
		}
		l := finish(t, "P16.2", h, p)
		if len(l) != 3*n {
			t.Errorf("P16.2: of %d: Rest() tells %d traces", n, len(l))
		}
		for i, spans := range l {
			if want := belonging(i/3, n, 3)[[]int{1, 0, 2}[i%3]]; spans[0].Trace != want {
				t.Errorf("P16.2: of %d: Rest() tells the trace %d as number %d, want %d", n, spans[0].Trace, i, want)
			}
		}
	}
}

func TestP16_2RestOfNothing(t *testing.T) {
	for _, n := range numbers {
		h, p := roomy(t, n, 5)
		for range 3 {
			if l := finish(t, "P16.2", h, p); len(l) != 0 {
				t.Errorf("P16.2: Rest() = %v", l)
			}
		}
	}
}

// TestP16LongRun does all that may be done, by chance, and holds all that is told against the plain reckoning.
func TestP16LongRun(t *testing.T) {
	for seed := range int64(40) {
		r := rand.New(rand.NewSource(seed))
		n := numbers[r.Intn(len(numbers))]
		k := kinds{traces: 1 + r.Intn(40), ids: 1 + r.Intn(4), ends: []uint64{3, 50, most}[seed%3], wide: r.Intn(60)}
		gap := []uint64{0, 1, 20, most}[r.Intn(4)]
		h, p := made(t, n, gap, 1+r.Intn(9), 66+r.Intn(1500))
		if seed%4 == 0 {
			h, p = roomy(t, n, gap)
		}
		for range 150 {
			switch r.Intn(12) {
			case 0:
				mark := []uint64{r.Uint64() % (k.ends + gap + 1), 0, end}[r.Intn(3)]
				shut(t, "P16", h, p, r.Intn(n), mark)
			case 1:
				if i := nowhere[r.Intn(len(nowhere))]; i < 0 || i >= n {
					if l, e := h.Close(i, r.Uint64()); e != api.ErrArg || len(l) != 0 {
						t.Errorf("P16.2: Close(%d) = %v, %d", i, l, e)
					}
				}
			case 2:
				s := k.noise(r)
				s.Kind = 5
				refuse(t, "P16.1", h, s)
			case 3:
				if r.Intn(6) == 0 {
					finish(t, "P16", h, p)
				}
			default:
				tell(t, "P16", h, p, k.noise(r))
			}
			check(t, "P16", h, p)
		}
		finish(t, "P16", h, p)
	}
}

// TestP16GreatestHouse has 64 shards, each with 65536 spans at most, and as many traces as come up.
func TestP16GreatestHouse(t *testing.T) {
	h, _ := roomy(t, 64, 10)
	const all = 1 << 17
	for i := range uint64(all) {
		if f, e := h.Add(one(i+1, 1, 1000+i%7)); e != api.OK || !nothing(f) {
			t.Fatalf("P16.1: Add number %d = %v, %d", i, f, e)
		}
	}
	if h.Traces() != all {
		t.Errorf("P16.1: Traces() = %d", h.Traces())
	}
	told := 0
	for i := range 64 {
		l, e := h.Close(i, 1012)
		if e != api.OK {
			t.Errorf("P16.2: Close(%d) = %d", i, e)
		}
		for k, spans := range l {
			s := spans[0]
			if len(spans) != 1 || digest.Part(s.Trace, 64) != i || s.End > 1002 || k > 0 &&
				(l[k-1][0].End > s.End || l[k-1][0].End == s.End && l[k-1][0].Trace >= s.Trace) {
				t.Fatalf("P16.2: Close(%d) tells %v as number %d", i, spans, k)
			}
		}
		told += len(l)
	}
	if left := h.Traces(); told+left != all || told < all/7*3 {
		t.Errorf("P16.2: %d are told, %d are left", told, left)
	}
	if l := h.Rest(); len(l) != all-told || h.Traces() != 0 {
		t.Errorf("P16.2: Rest() tells %d, %d are left", len(l), h.Traces())
	}
}

// byTrace are the traces that are told, each with its spans, by their numbers.
func byTrace(l [][]api.Span) [][]api.Span {
	return slices.SortedFunc(slices.Values(l), func(a, b []api.Span) int { return cmp.Compare(a[0].Trace, b[0].Trace) })
}

// TestP16_3HowManyShards: where nothing has to go, it plays no part for a trace's spans how many shards there are.
func TestP16_3HowManyShards(t *testing.T) {
	for seed := range int64(20) {
		r := rand.New(rand.NewSource(seed))
		k := kinds{traces: 60, ids: 4, ends: []uint64{3, 100, most}[seed%3], wide: 5}
		came := make([]api.Span, 300)
		for i := range came {
			came[i] = k.noise(r)
		}
		first, _ := roomy(t, 1, 9)
		var fates []shard.Fate
		for _, s := range came {
			f, _ := first.Add(s)
			fates = append(fates, f)
		}
		want := byTrace(first.Rest())
		for _, n := range []int{1, 2, 7, 64} {
			h, _ := roomy(t, n, 9)
			for i, s := range came {
				if f, e := h.Add(s); e != api.OK || !likeFates(f, fates[i]) || len(f.Gone) != 0 {
					t.Errorf("P16.3: seed %d, of %d: Add(%v) = %v, %d, want %v", seed, n, s, f, e, fates[i])
				}
			}
			if got := byTrace(h.Rest()); !likeLists(got, want) {
				t.Errorf("P16.3: seed %d, of %d: told are %v, want %v", seed, n, got, want)
			}
		}
	}
}

// TestP16_3WhateverOrder: nor does it, where they come in another order.
func TestP16_3WhateverOrder(t *testing.T) {
	r := rand.New(rand.NewSource(2))
	k := kinds{traces: 20, ids: 4, ends: 30, wide: 5}
	came := make([]api.Span, 200)
	for i := range came {
		came[i] = k.noise(r)
	}
	var want [][]api.Span
	for _, n := range []int{1, 2, 7, 64} {
		for range 5 {
			h, p := roomy(t, n, 9)
			for _, s := range came {
				tell(t, "P16.3", h, p, s)
			}
			got := byTrace(finish(t, "P16.3", h, p))
			if want == nil {
				want = cloneLists(got)
			}
			if !likeLists(got, want) {
				t.Errorf("P16.3: of %d: told are %v, want %v", n, got, want)
			}
			r.Shuffle(len(came), func(i, j int) { came[i], came[j] = came[j], came[i] })
		}
	}
}

// TestP16_3WithClosings: nor does it, where all shards are closed at the same marks between.
func TestP16_3WithClosings(t *testing.T) {
	for seed := range int64(20) {
		var want [][][]api.Span
		for _, n := range []int{1, 2, 7, 64} {
			r := rand.New(rand.NewSource(seed))
			k := kinds{traces: 50, ids: 3, ends: 100, wide: 5}
			h, _ := roomy(t, n, 10)
			var told [][][]api.Span
			for mark := uint64(0); mark < 120; mark += 10 {
				for range 20 {
					if f, e := h.Add(k.noise(r)); e != api.OK || len(f.Gone) != 0 {
						t.Errorf("P16.3: of %d: Add = %v, %d", n, f, e)
					}
				}
				var closed [][]api.Span
				for _, i := range r.Perm(64) {
					if l, e := h.Close(i, mark); (e == api.OK) != (i < n) {
						t.Errorf("P16.3: of %d: Close(%d) = %v, %d", n, i, l, e)
					} else {
						closed = append(closed, l...)
					}
				}
				told = append(told, byTrace(closed))
			}
			told = append(told, byTrace(h.Rest()))
			if want == nil {
				want = told
			}
			if !slices.EqualFunc(told, want, likeLists) {
				t.Errorf("P16.3: seed %d, of %d: told are %v, want %v", seed, n, told, want)
			}
		}
	}
}

// toldNothing asks a house without shards for all.
func toldNothing(t *testing.T, what string, h *House, wrong api.Errno) {
	t.Helper()
	for range 3 {
		for _, s := range []api.Span{one(1, 1, 5), one(end, end, most), {}, one(0, 1, 5), one(1, 1, end)} {
			if f, e := h.Add(s); e != api.ErrNil || !nothing(f) {
				t.Errorf("%s: Add(%v) = %v, %d", what, s, f, e)
			}
		}
		for _, n := range strangers {
			if h.Open(n) {
				t.Errorf("%s: Open(%d) is true", what, n)
			}
			for _, i := range append([]int{0, 1, 63}, nowhere...) {
				if l, e := h.Close(i, n); e != wrong || len(l) != 0 {
					t.Errorf("%s: Close(%d, %d) = %v, %d", what, i, n, l, e)
				}
			}
		}
		for _, i := range append([]int{0, 1, 63}, nowhere...) {
			if spans, bytes := h.Held(i); spans != 0 || bytes != 0 {
				t.Errorf("%s: Held(%d) = %d, %d", what, i, spans, bytes)
			}
		}
		if l := h.Rest(); len(l) != 0 || h.Traces() != 0 {
			t.Errorf("%s: Rest() = %v, Traces() = %d", what, l, h.Traces())
		}
	}
}

func TestR1NilHouse(t *testing.T) { toldNothing(t, "P16: nil", nil, api.ErrNil) }

func TestR1NilThatNewTold(t *testing.T) {
	for _, n := range []int{0, 65} {
		h, _ := New(n, 0, 1, 1)
		toldNothing(t, "R1: what New told beside ErrArg", h, api.ErrNil)
	}
	h, _ := New(5, 0, 0, 1)
	toldNothing(t, "R1: what New told beside a shard's error", h, api.ErrNil)
}

// TestR1NotMadeByNew: one that nobody made by New has no shards.
func TestR1NotMadeByNew(t *testing.T) {
	for _, h := range []*House{{}, new(House)} {
		toldNothing(t, "R1: not made by New", h, api.ErrArg)
	}
}

// TestR1CopyOfAHouse asks for no more than answers, and that none holds more than it may: what a copy has in common with its
// other one the document leaves open.
func TestR1CopyOfAHouse(t *testing.T) {
	r := rand.New(rand.NewSource(4))
	h, _ := made(t, 5, 5, 10, 900)
	h.Add(one(1, 1, 1))
	all := []House{*h, *h, *h, {}, {}}
	k := kinds{traces: 9, ids: 5, ends: 20, wide: 9}
	for range 2000 {
		i := r.Intn(len(all))
		if _, e := all[i].Add(k.noise(r)); (e == api.OK) != (i < 3) {
			t.Errorf("R1: a copy's Add = %d", e)
		}
		all[r.Intn(len(all))].Close(r.Intn(7)-1, r.Uint64()%30)
		for i := range all {
			for k := range 5 {
				n, b := all[i].Held(k)
				if n > 10 || b > 900 || n < 0 || b < 0 {
					t.Fatalf("R1: a copy's Held(%d) = %d, %d", k, n, b)
				}
			}
		}
	}
	for i := range all {
		all[i].Rest()
		if n := all[i].Traces(); n != 0 {
			t.Errorf("R1: a copy's Traces() behind Rest = %d", n)
		}
	}
}

func TestR2ErrorTellsNothing(t *testing.T) {
	for _, n := range []int{math.MinInt, -1, 0, 65, math.MaxInt} {
		if h, e := New(n, end, 0, 0); h != nil || e != api.ErrArg {
			t.Errorf("R2: New(%d) = %v, %d", n, h, e)
		}
	}
	h, p := filled(t, 2)
	for _, s := range badSpans(1) {
		refuse(t, "R2", h, s)
	}
	if l, e := h.Close(2, end); l != nil || e != api.ErrArg {
		t.Errorf("R2: Close(2) = %v, %d", l, e)
	}
	check(t, "R2", h, p)
}

// spoil writes over all that a list of spans has.
func spoil(l []api.Span) {
	for i := range l {
		for j := range l[i].Attrs {
			l[i].Attrs[j] = api.Attr{Key: "spoilt"}
		}
		_ = append(l[i].Attrs[:0], slices.Repeat([]api.Attr{{Key: "spoilt"}}, cap(l[i].Attrs))...)
		l[i] = api.Span{Name: "spoilt"}
	}
	_ = append(l[:0], slices.Repeat([]api.Span{{Name: "spoilt"}}, cap(l))...)
}

// spoilOneByOne writes over each list of an answer, and looks whether those behind it stay.
func spoilOneByOne(t *testing.T, what string, l [][]api.Span) {
	t.Helper()
	was := cloneLists(l)
	for i := range l {
		spoil(l[i])
		if !likeLists(l[i+1:], was[i+1:]) {
			t.Errorf("R4: %s: the lists behind %d lie in it", what, i)
		}
	}
	clear(l[:cap(l)])
}

// TestR4WhatIsGivenAndTold writes over all that was given and told, behind each call, and goes on.
func TestR4WhatIsGivenAndTold(t *testing.T) {
	for seed := range int64(20) {
		r := rand.New(rand.NewSource(seed))
		k := kinds{traces: 12, ids: 3, ends: 30, wide: 20}
		h, p := made(t, 1+r.Intn(4), 2, 1+r.Intn(12), 100+r.Intn(3000))
		for range 200 {
			s := k.noise(r)
			// With room behind the last attribute: nothing may be written there.
			s.Attrs = append(make([]api.Attr, 0, 8), s.Attrs...)
			copy(s.Attrs[:8][len(s.Attrs):], slices.Repeat([]api.Attr{intAttr("behind", 7)}, 8))
			was := clones([]api.Span{s})[0]
			want := p.add(was)
			want = shard.Fate{Twice: clones(want.Twice), Gone: clones(want.Gone)}
			f, _ := h.Add(s)
			if !like(s, was) {
				t.Errorf("R4: Add made %v of %v", s, was)
			}
			for _, a := range s.Attrs[:8][len(s.Attrs):] {
				if a != intAttr("behind", 7) {
					t.Errorf("R4: Add wrote %v behind %v", a, was)
				}
			}
			spoil([]api.Span{s})
			if !likeFates(f, want) {
				t.Errorf("R4: what is told hangs on what is given: %v, want %v", f, want)
			}
			spoilOneByOne(t, "Add", [][]api.Span{f.Twice, f.Gone})
			check(t, "R4", h, p)
			if r.Intn(8) == 0 {
				spoilOneByOne(t, "Close", shut(t, "R4", h, p, r.Intn(p.shards), r.Uint64()%35))
			}
			if r.Intn(50) == 0 {
				spoilOneByOne(t, "Rest", finish(t, "R4", h, p))
			}
		}
		spoilOneByOne(t, "Rest", finish(t, "R4", h, p))
	}
}

// TestR4Alike adds the same span, with the same list, again and again: those that are told are apart.
func TestR4Alike(t *testing.T) {
	h, _ := made(t, 2, 0, 2, most)
	traces := belonging(0, 2, 3)
	attrs := []api.Attr{intAttr("a", 1), textAttr("b", "c")}
	s, other := with(one(traces[0], 1, 5), attrs...), with(one(belonging(1, 2, 1)[0], 1, 5), attrs...)
	var told []api.Span
	add := func(s api.Span) {
		f, _ := h.Add(s)
		told = slices.Concat(told, f.Twice, f.Gone)
	}
	for range 4 {
		add(s)
	}
	add(other)
	for _, trace := range traces[1:] {
		add(with(one(trace, 1, 6), attrs...))
	}
	l, _ := h.Close(0, 6)
	told = slices.Concat(told, slices.Concat(l...), slices.Concat(h.Rest()...))
	seen := map[*api.Attr]bool{&attrs[0]: true}
	for _, x := range told {
		if !slices.Equal(x.Attrs, attrs) || seen[&x.Attrs[0]] {
			t.Errorf("R4: %v is told, or its attributes lie in another's", x)
		}
		seen[&x.Attrs[0]] = true
	}
	// Three that are Twice, one that is gone, two that are closed, and the other shard's.
	if len(told) != 7 {
		t.Errorf("R4: told are %v", told)
	}
}

// TestR5NothingGoesRound: in each shard the traces with great deadlines go behind those with lesser ones.
func TestR5NothingGoesRound(t *testing.T) {
	for _, n := range numbers {
		for i := range n {
			l := belonging(i, n, 4)
			h, p := made(t, n, most, 3, most)
			follow(t, "R5", h, p, one(l[0], 1, most), one(l[1], 1, 0), one(l[2], 1, most-1))
			if f := tell(t, "R5", h, p, one(l[3], 1, most)); !likeAll(f.Gone, []api.Span{one(l[1], 1, 0)}) {
				t.Errorf("R5: Add = %v", f)
			}
			if got := shut(t, "R5", h, p, i, 1<<63-1); !likeLists(got, [][]api.Span{{one(l[2], 1, most-1)}}) {
				t.Errorf("R5: Close(%d, 2^63 - 1) = %v", i, got)
			}
			if got := finish(t, "R5", h, p); len(got) != 2 {
				t.Errorf("R5: Rest() = %v", got)
			}
		}
	}
}

func TestR6NothingIsKept(t *testing.T) {
	first, p := made(t, 3, 10, 4, 1000)
	follow(t, "R6", first, p, one(1, 1, 5), one(2, 1, 6), one(1, 1, 4), one(3, 1, 9))
	r := rand.New(rand.NewSource(5))
	k := kinds{traces: 12, ids: 4, ends: 50, wide: 30}
	for range 20 {
		h, q := made(t, 1+r.Intn(9), uint64(r.Intn(20)), 1+r.Intn(10), 100+r.Intn(900))
		for range 20 {
			tell(t, "R6: one behind another", h, q, k.noise(r))
		}
		check(t, "R6: one behind another", h, q)
		finish(t, "R6: one behind another", h, q)
		check(t, "R6: the first one", first, p)
	}
	one, a := made(t, 4, 3, 5, 2000)
	other, b := made(t, 4, 4, 6, 1000)
	for range 200 {
		tell(t, "R6: one of two", one, a, k.noise(r))
		tell(t, "R6: the other of two", other, b, k.noise(r))
		if r.Intn(9) == 0 {
			shut(t, "R6: one of two", one, a, r.Intn(4), r.Uint64()%50)
		}
		check(t, "R6: one of two", one, a)
		check(t, "R6: the other of two", other, b)
	}
}

// TestP16_1AskingChangesNothing asks one of two houses for all between the calls.
func TestP16_1AskingChangesNothing(t *testing.T) {
	r := rand.New(rand.NewSource(6))
	k := kinds{traces: 15, ids: 4, ends: 20, wide: 30}
	asked, p := made(t, 3, 1, 9, 1500)
	other, q := made(t, 3, 1, 9, 1500)
	for range 300 {
		s := k.noise(r)
		tell(t, "P16.1: asked", asked, p, s)
		check(t, "P16.1: asked", asked, p)
		tell(t, "P16.1: not asked", other, q, s)
	}
	finish(t, "P16.1: asked", asked, p)
	finish(t, "P16.1: asked at the end alone", other, q)
}

// TestWaysASliceOfShards: a house's shards are a slice, and it shows nothing of what it has.
func TestWaysASliceOfShards(t *testing.T) {
	h := reflect.TypeFor[*House]()
	if h.Elem().NumField() != 1 || h.Elem().Field(0).Type != reflect.TypeFor[[]*shard.Shard]() || h.Elem().Field(0).IsExported() {
		t.Errorf("Ways: a house isn't a slice of shards")
	}
	var names []string
	for i := range h.NumMethod() {
		names = append(names, h.Method(i).Name)
	}
	if !slices.Equal(names, []string{"Add", "Close", "Held", "Open", "Rest", "Traces"}) {
		t.Errorf("Ways: a house has %q", names)
	}
}

// TestWaysClosures: what all shards have is gathered by closures.
func TestWaysClosures(t *testing.T) {
	file, err := parser.ParseFile(token.NewFileSet(), "route.go", nil, 0)
	if err != nil {
		t.Fatal(err)
	}
	closures := map[string]int{}
	for _, d := range file.Decls {
		f, ok := d.(*ast.FuncDecl)
		if !ok {
			continue
		}
		ast.Inspect(f, func(n ast.Node) bool {
			if _, ok := n.(*ast.FuncLit); ok {
				closures[f.Name.Name]++
			}
			return true
		})
	}
	if closures["Rest"] != 1 || closures["Traces"] != 1 {
		t.Errorf("Ways: closures are in %v", closures)
	}
}

func FuzzHouse(f *testing.F) {
	r := rand.New(rand.NewSource(8))
	some := func(n int) []byte {
		b := make([]byte, 6*n)
		r.Read(b)
		return b
	}
	f.Add(3, uint64(10), 3, 1000, some(20))
	f.Add(1, uint64(0), 1, 1, some(20))
	f.Add(64, uint64(most), many, most, some(40))
	f.Add(65, uint64(most+1), 0, 0, some(1))
	f.Add(7, uint64(3), 10, 900, some(60))
	f.Fuzz(func(t *testing.T, shards int, gap uint64, spans, bytes int, b []byte) {
		h, e := New(shards, gap, spans, bytes)
		right := shards >= 1 && shards <= 64 && gap <= most && spans >= 1 && spans <= many && bytes >= 1 && bytes <= most
		if right != (e == api.OK) || right != (h != nil) {
			t.Fatalf("P16.1: New(%d, %d, %d, %d) = %v, %d", shards, gap, spans, bytes, h, e)
		}
		p := &plain{shards: shards, gap: gap, spans: spans, bytes: bytes}
		for ; right && len(b) >= 6; b = b[6:] {
			at := uint64(binary.LittleEndian.Uint16(b[2:]))
			s := one(uint64(b[0]%32), uint64(b[1]%16), at)
			s.Parent = uint64(b[1] >> 4)
			s.Name = strings.Repeat("n", int(b[4]))
			for i := range b[5] % 18 {
				s.Attrs = append(s.Attrs, intAttr("k"+strconv.Itoa(int(i)), int64(b[5])))
			}
			i := int(b[1]) - 8
			switch {
			case b[0] >= 250:
				finish(t, "P16.2", h, p)
			case b[0] >= 200 && i >= 0 && i < shards:
				shut(t, "P16.2", h, p, i, at+gap*uint64(b[4]%2))
			case b[0] >= 200:
				if l, e := h.Close(i, at); e != api.ErrArg || len(l) != 0 {
					t.Fatalf("P16.2: Close(%d, %d) = %v, %d", i, at, l, e)
				}
			case span.Check(s) != api.OK:
				refuse(t, "P16.1", h, s)
			default:
				tell(t, "P16.1", h, p, s)
			}
			check(t, "P16", h, p)
		}
	})
}
