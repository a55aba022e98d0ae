package hist

import (
	"encoding/binary"
	"math"
	"math/big"
	"math/rand"
	"slices"
	"strconv"
	"testing"

	"tallyroom/api"
	"tallyroom/sat"
)

// rising has n bounds: from, from and step, from and two steps.
func rising(n int, from, step uint64) []uint64 {
	l := make([]uint64, n)
	for i := range l {
		l[i] = from + uint64(i)*step
	}
	return l
}

// rightBounds has bounds that may be: none, one, several, as many as may be; with 0 and with 2^64 - 1 among them.
func rightBounds() map[string][]uint64 {
	out := map[string][]uint64{
		"nil":                nil,
		"none":               {},
		"0":                  {0},
		"1":                  {1},
		"10":                 {10},
		"the last number":    {math.MaxUint64},
		"one below the last": {math.MaxUint64 - 1},
		"2^63":               {1 << 63},
		"10, 20":             {10, 20},
		"10, 20, 50":         {10, 20, 50},
		"0, 1":               {0, 1},
		"0, 1, 2":            {0, 1, 2},
		"the ends":           {0, math.MaxUint64},
		"the last two":       {math.MaxUint64 - 1, math.MaxUint64},
		"about 2^63":         {1<<63 - 1, 1 << 63, 1<<63 + 1},
		"far apart":          {3, 1 << 20, 1 << 40, 1 << 62, 1 << 63, math.MaxUint64 - 5},
		"31":                 rising(31, 5, 7),
		"32":                 rising(32, 5, 7),
		"32 from 0":          rising(32, 0, 1),
		"32 up to the last":  rising(32, math.MaxUint64-31, 1),
		"32 far apart":       rising(32, 0, math.MaxUint64/31),
	}
	powers := make([]uint64, 32)
	for i := range powers {
		powers[i] = 1 << (2 * i)
	}
	out["32 powers"] = powers
	r := rand.New(rand.NewSource(1))
	for i := range 30 {
		l := make([]uint64, r.Intn(33))
		for j := range l {
			l[j] = r.Uint64() >> r.Intn(60)
		}
		slices.Sort(l)
		out["noise "+strconv.Itoa(i)] = slices.Compact(l)
	}
	return out
}

// wrongBounds has lists that are no bounds: too many, or such as stay the same or fall somewhere.
func wrongBounds() map[string][]uint64 {
	out := map[string][]uint64{
		"33":                   rising(33, 5, 7),
		"33 from 0":            rising(33, 0, 1),
		"33 up to the last":    rising(33, math.MaxUint64-32, 1),
		"33 zeros":             make([]uint64, 33),
		"34":                   rising(34, 5, 7),
		"64":                   rising(64, 5, 7),
		"1000":                 rising(1000, 5, 7),
		"65537":                rising(65537, 0, 1),
		"two zeros":            {0, 0},
		"two alike":            {7, 7},
		"two of the last":      {math.MaxUint64, math.MaxUint64},
		"32 zeros":             make([]uint64, 32),
		"it falls by 1":        {8, 7},
		"it falls to 0":        {1, 0},
		"from the last to 0":   {math.MaxUint64, 0},
		"as if signed":         {1 << 63, 1},
		"as if in 32 bits":     {1 << 32, 1},
		"it falls far":         {math.MaxUint64, 1, 2, 3},
		"alike at the start":   {5, 5, 6, 7},
		"alike amid":           {4, 5, 5, 6},
		"alike at the end":     {4, 5, 6, 6},
		"falling at the start": {6, 5, 7, 8},
		"falling amid":         {4, 6, 5, 7},
		"falling at the end":   {4, 5, 7, 6},
		"all fall":             {9, 8, 7, 6, 5},
		"up and down":          {1, 9, 2, 8, 3, 7},
	}
	for i := range 31 {
		alike, falling, swapped := rising(32, 5, 7), rising(32, 5, 7), rising(32, 5, 7)
		alike[i+1] = alike[i]
		falling[i+1] = falling[i] - 1
		swapped[i], swapped[i+1] = swapped[i+1], swapped[i]
		at := strconv.Itoa(i)
		out["32, alike at "+at], out["32, falling at "+at], out["32, swapped at "+at] = alike, falling, swapped
	}
	return out
}

// numbers has, for some bounds: each of them, one below and one above it, the ends, those about 2^63, and others.
func numbers(bounds []uint64) []uint64 {
	l := []uint64{0, 1, 2, 9, 10, 11, 100, 12345, 1<<63 - 2, 1<<63 - 1, 1 << 63, 1<<63 + 1, math.MaxUint64 - 1, math.MaxUint64}
	for _, b := range bounds {
		if b > 0 {
			l = append(l, b-1)
		}
		l = append(l, b)
		if b < math.MaxUint64 {
			l = append(l, b+1)
		}
	}
	r := rand.New(rand.NewSource(2))
	for range 20 {
		l = append(l, r.Uint64(), r.Uint64()>>r.Intn(64))
	}
	return l
}

// small has, for some bounds, numbers that don't become full together.
func small(bounds []uint64) []uint64 {
	return slices.DeleteFunc(numbers(bounds), func(n uint64) bool { return n >= 1<<55 })
}

// The calls, by the document's words: a plain count, and numbers that have no end.

func wantBounds(l []uint64) bool {
	for i := range l {
		for j := range i {
			if l[j] >= l[i] {
				return false
			}
		}
	}
	return len(l) <= 32
}

func wantBucket(bounds []uint64, n uint64) int {
	below := 0
	for _, b := range bounds {
		if b < n {
			below++
		}
	}
	return below
}

// asCount is the count to which so much was added in all.
func asCount(all *big.Int) sat.Count {
	if all.BitLen() > 63 {
		return sat.Count{N: 9223372036854775807, Full: true}
	}
	return sat.Count{N: all.Uint64()}
}

func asBig(n uint64) *big.Int { return new(big.Int).SetUint64(n) }

// tally is what a histogram should have.
type tally struct {
	bounds     []uint64
	buckets    []*big.Int
	count, sum *big.Int
}

func newTally(bounds []uint64) *tally {
	w := &tally{bounds: slices.Clone(bounds), count: new(big.Int), sum: new(big.Int)}
	for range len(bounds) + 1 {
		w.buckets = append(w.buckets, new(big.Int))
	}
	return w
}

// put counts n in each bucket of which the words say that it is of it.
func (w *tally) put(n uint64) {
	one := asBig(1)
	for i, b := range w.buckets {
		atMost := i == len(w.bounds) || n <= w.bounds[i]
		above := i == 0 || n > w.bounds[i-1]
		if atMost && above {
			b.Add(b, one)
		}
	}
	w.count.Add(w.count, one)
	w.sum.Add(w.sum, asBig(n))
}

func (w *tally) join(o *tally) {
	for i, b := range w.buckets {
		b.Add(b, o.buckets[i])
	}
	w.count.Add(w.count, o.count)
	w.sum.Add(w.sum, o.sum)
}

func (w *tally) told() told {
	t := told{count: asCount(w.count), sum: asCount(w.sum)}
	for _, b := range w.buckets {
		t.buckets = append(t.buckets, asCount(b))
		t.full = t.full || asCount(b).Full
	}
	t.full = t.full || t.count.Full || t.sum.Full
	return t
}

// told is all that a histogram tells.
type told struct {
	buckets    []sat.Count
	count, sum sat.Count
	full       bool
}

func toldBy(h *Hist) told { return told{h.Buckets(), h.Count(), h.Sum(), h.Full()} }

func (a told) same(b told) bool {
	return slices.Equal(a.buckets, b.buckets) && a.count == b.count && a.sum == b.sum && a.full == b.full
}

// made is a histogram of these numbers.
func made(t *testing.T, bounds []uint64, numbers ...uint64) *Hist {
	t.Helper()
	h, e := New(bounds)
	if e != api.OK || h == nil {
		t.Fatalf("New(%d) = %v, %d", bounds, h, e)
	}
	for _, n := range numbers {
		if e := h.Put(n); e != api.OK {
			t.Fatalf("Put(%d) = %d", n, e)
		}
	}
	return h
}

// wantOf is what a histogram of these numbers should tell.
func wantOf(bounds []uint64, numbers ...uint64) told {
	w := newTally(bounds)
	for _, n := range numbers {
		w.put(n)
	}
	return w.told()
}

func check(t *testing.T, name string, h *Hist, want told) {
	t.Helper()
	if got := toldBy(h); !got.same(want) {
		t.Errorf("%s: %+v, want %+v", name, got, want)
	}
}

// times joins h to itself so often that what it has is there 2^n times.
func times(t *testing.T, h *Hist, n int) *Hist {
	t.Helper()
	for range n {
		if e := h.Join(h); e != api.OK {
			t.Fatalf("Join of itself = %d", e)
		}
	}
	return h
}

func counts(l ...uint64) []sat.Count {
	out := make([]sat.Count, len(l))
	for i, n := range l {
		out[i].N = n
	}
	return out
}

var isFull = sat.Count{N: 9223372036854775807, Full: true}

func TestP11_1NewOfBounds(t *testing.T) {
	for name, bounds := range rightBounds() {
		if !wantBounds(bounds) {
			t.Fatalf("%s: no bounds", name)
		}
		h, e := New(bounds)
		if e != api.OK || h == nil {
			t.Errorf("P11.1: New of %s: %v, %d", name, h, e)
			continue
		}
		check(t, "P11.1: New of "+name, h, told{buckets: make([]sat.Count, len(bounds)+1)})
	}
}

func TestP11_1NewOfNoBounds(t *testing.T) {
	for name, bounds := range wrongBounds() {
		if wantBounds(bounds) {
			t.Fatalf("%s: bounds", name)
		}
		if h, e := New(bounds); e != api.ErrArg || h != nil {
			t.Errorf("P11.1: New of %s: %v, %d", name, h, e)
		}
	}
}

func TestP11_1NewOfSoMany(t *testing.T) {
	for n := range 70 {
		for name, l := range map[string][]uint64{
			"from 0":      rising(n, 0, 1),
			"ordinary":    rising(n, 10, 10),
			"to the last": rising(n, math.MaxUint64-uint64(max(n, 1)-1), 1),
		} {
			want := api.OK
			if n > 32 {
				want = api.ErrArg
			}
			if h, e := New(l); e != want || (h == nil) != (want != api.OK) {
				t.Errorf("P11.1: New of %d %s: %v, %d", n, name, h, e)
			}
		}
	}
}

func TestP11_1BucketKnown(t *testing.T) {
	for _, x := range []struct {
		bounds []uint64
		n      uint64
		want   int
	}{
		{nil, 0, 0},
		{nil, math.MaxUint64, 0},
		{[]uint64{}, 7, 0},
		{[]uint64{0}, 0, 0},
		{[]uint64{0}, 1, 1},
		{[]uint64{0}, math.MaxUint64, 1},
		{[]uint64{math.MaxUint64}, 0, 0},
		{[]uint64{math.MaxUint64}, math.MaxUint64 - 1, 0},
		{[]uint64{math.MaxUint64}, math.MaxUint64, 0},
		{[]uint64{math.MaxUint64 - 1}, math.MaxUint64, 1},
		{[]uint64{10, 20}, 0, 0},
		{[]uint64{10, 20}, 9, 0},
		{[]uint64{10, 20}, 10, 0},
		{[]uint64{10, 20}, 11, 1},
		{[]uint64{10, 20}, 19, 1},
		{[]uint64{10, 20}, 20, 1},
		{[]uint64{10, 20}, 21, 2},
		{[]uint64{10, 20}, math.MaxUint64, 2},
		{[]uint64{1, 1 << 63}, 1<<63 - 1, 1},
		{[]uint64{1, 1 << 63}, 1 << 63, 1},
		{[]uint64{1, 1 << 63}, 1<<63 + 1, 2},
		{rising(32, 10, 10), 10, 0},
		{rising(32, 10, 10), 11, 1},
		{rising(32, 10, 10), 160, 15},
		{rising(32, 10, 10), 161, 16},
		{rising(32, 10, 10), 320, 31},
		{rising(32, 10, 10), 321, 32},
	} {
		if got := Bucket(x.bounds, x.n); got != x.want {
			t.Errorf("P11.1: Bucket(%d, %d) = %d, want %d", x.bounds, x.n, got, x.want)
		}
	}
}

func TestP11_1BucketByAPlainCount(t *testing.T) {
	for name, bounds := range rightBounds() {
		for _, n := range numbers(bounds) {
			if got, want := Bucket(bounds, n), wantBucket(bounds, n); got != want {
				t.Errorf("P11.1: %s: Bucket(%d, %d) = %d, want %d", name, bounds, n, got, want)
			}
		}
	}
}

func TestP11_1BucketOfSoMany(t *testing.T) {
	for many := range 33 {
		bounds := rising(many, 1, 2)
		for n := range uint64(70) {
			if got, want := Bucket(bounds, n), wantBucket(bounds, n); got != want {
				t.Errorf("P11.1: Bucket(%d, %d) = %d, want %d", bounds, n, got, want)
			}
		}
	}
}

func TestP11_1PutKnown(t *testing.T) {
	for _, x := range []struct {
		bounds, numbers []uint64
		want            told
	}{
		{nil, []uint64{0, 7, 8}, told{buckets: counts(3), count: sat.Count{N: 3}, sum: sat.Count{N: 15}}},
		{[]uint64{10, 20}, []uint64{10}, told{buckets: counts(1, 0, 0), count: sat.Count{N: 1}, sum: sat.Count{N: 10}}},
		{[]uint64{10, 20}, []uint64{11}, told{buckets: counts(0, 1, 0), count: sat.Count{N: 1}, sum: sat.Count{N: 11}}},
		{[]uint64{10, 20}, []uint64{21}, told{buckets: counts(0, 0, 1), count: sat.Count{N: 1}, sum: sat.Count{N: 21}}},
		{[]uint64{10, 20}, []uint64{10, 11, 21}, told{buckets: counts(1, 1, 1), count: sat.Count{N: 3}, sum: sat.Count{N: 42}}},
		{[]uint64{10, 20}, []uint64{0, 0}, told{buckets: counts(2, 0, 0), count: sat.Count{N: 2}}},
		{[]uint64{10, 20}, []uint64{5, 5, 15, 25, 25, 25}, told{buckets: counts(2, 1, 3), count: sat.Count{N: 6}, sum: sat.Count{N: 100}}},
		{[]uint64{0, math.MaxUint64}, []uint64{0, 0, 1, 5}, told{buckets: counts(2, 2, 0), count: sat.Count{N: 4}, sum: sat.Count{N: 6}}},
		{[]uint64{0, math.MaxUint64}, []uint64{math.MaxUint64}, told{buckets: counts(0, 1, 0), count: sat.Count{N: 1}, sum: isFull, full: true}},
		{[]uint64{0, 1 << 63}, []uint64{math.MaxUint64}, told{buckets: counts(0, 0, 1), count: sat.Count{N: 1}, sum: isFull, full: true}},
	} {
		h := made(t, x.bounds, x.numbers...)
		check(t, "P11.1: Put", h, x.want)
		check(t, "P11.1: the words", h, wantOf(x.bounds, x.numbers...))
	}
}

func TestP11_1PutByWords(t *testing.T) {
	for name, bounds := range rightBounds() {
		for _, l := range [][]uint64{numbers(bounds), small(bounds)} {
			h, w := made(t, bounds), newTally(bounds)
			for _, n := range l {
				if e := h.Put(n); e != api.OK {
					t.Errorf("P11.1: %s: Put(%d) = %d", name, n, e)
				}
				w.put(n)
				check(t, "P11.1: "+name+": Put "+strconv.FormatUint(n, 10), h, w.told())
			}
		}
	}
}

func TestP11_1PutGoesWhereBucketSays(t *testing.T) {
	for name, bounds := range rightBounds() {
		for _, n := range numbers(bounds) {
			l := made(t, bounds, n).Buckets()
			for i, c := range l {
				if (c.N == 1) != (i == Bucket(bounds, n)) || c.N > 1 {
					t.Errorf("P11.1: %s: Put(%d): %+v", name, n, l)
				}
			}
		}
	}
}

func TestP11_1SumThatIsFull(t *testing.T) {
	for _, x := range []struct {
		numbers []uint64
		want    sat.Count
	}{
		{[]uint64{1<<63 - 1}, sat.Count{N: 1<<63 - 1}},
		{[]uint64{1<<63 - 1, 0}, sat.Count{N: 1<<63 - 1}},
		{[]uint64{1<<63 - 2, 1}, sat.Count{N: 1<<63 - 1}},
		{[]uint64{1 << 62, 1<<62 - 1}, sat.Count{N: 1<<63 - 1}},
		{[]uint64{1<<63 - 1, 1}, isFull},
		{[]uint64{1, 1<<63 - 1}, isFull},
		{[]uint64{1 << 62, 1 << 62}, isFull},
		{[]uint64{1 << 63}, isFull},
		{[]uint64{1<<63 + 1}, isFull},
		{[]uint64{math.MaxUint64}, isFull},
		{[]uint64{1 << 63, 1 << 63}, isFull},
		{[]uint64{math.MaxUint64, 1}, isFull},
		{[]uint64{1, math.MaxUint64}, isFull},
		{[]uint64{math.MaxUint64, 0, 0, 1}, isFull},
		{slices.Repeat([]uint64{1 << 62}, 4), isFull},
		{slices.Repeat([]uint64{1 << 60}, 7), sat.Count{N: 7 << 60}},
		{slices.Repeat([]uint64{1 << 60}, 8), isFull},
		{slices.Repeat([]uint64{1 << 60}, 16), isFull},
	} {
		for name, bounds := range rightBounds() {
			h := made(t, bounds, x.numbers...)
			if got := h.Sum(); got != x.want || h.Full() != x.want.Full {
				t.Errorf("P11.1: %s: %d: Sum() = %+v, Full() = %v, want %+v", name, x.numbers, got, h.Full(), x.want)
			}
			if h.Count() != (sat.Count{N: uint64(len(x.numbers))}) || slices.Contains(h.Buckets(), isFull) {
				t.Errorf("P11.1: %s: %d: Count() = %+v, Buckets() = %+v", name, x.numbers, h.Count(), h.Buckets())
			}
		}
	}
}

func TestP11_1CountThatIsFull(t *testing.T) {
	bounds := []uint64{10, 20}
	full := times(t, made(t, bounds, 0), 63)
	check(t, "P11.1: 2^63 times 0", full, told{buckets: []sat.Count{isFull, {}, {}}, count: isFull, full: true})
	full.Put(15)
	check(t, "P11.1: and 15", full, told{buckets: []sat.Count{isFull, {N: 1}, {}}, count: isFull, sum: sat.Count{N: 15}, full: true})

	apart := times(t, made(t, []uint64{0, 1, 2}, 0, 0), 61)
	apart.Join(times(t, made(t, []uint64{0, 1, 2}, 1), 61))
	check(t, "P11.1: below what is full", apart, told{buckets: counts(1<<62, 1<<61, 0, 0), count: sat.Count{N: 3 << 61}, sum: sat.Count{N: 1 << 61}})
	apart.Join(times(t, made(t, []uint64{0, 1, 2}, 2), 61))
	check(t, "P11.1: only the count is full", apart, told{buckets: counts(1<<62, 1<<61, 1<<61, 0), count: isFull, sum: sat.Count{N: 3 << 61}, full: true})

	last := times(t, made(t, []uint64{0, 1}, 5), 63)
	check(t, "P11.1: the last bucket is full", last, told{buckets: []sat.Count{{}, {}, isFull}, count: isFull, sum: isFull, full: true})
}

func TestP11_1CountThatIsAlmostFull(t *testing.T) {
	h := made(t, nil)
	for n := range 63 {
		h.Join(times(t, made(t, nil, 0), n))
	}
	most := sat.Count{N: 9223372036854775807}
	check(t, "P11.1: 2^63 - 1 times 0", h, told{buckets: []sat.Count{most}, count: most})
	h.Put(0)
	check(t, "P11.1: 2^63 times 0", h, told{buckets: []sat.Count{isFull}, count: isFull, full: true})
}

func TestP11_1Nil(t *testing.T) {
	var h *Hist
	for _, n := range numbers(nil) {
		if e := h.Put(n); e != api.ErrNil {
			t.Errorf("P11.1: Put(%d) of nil = %d", n, e)
		}
	}
	if l := h.Buckets(); len(l) != 0 {
		t.Errorf("P11.1: Buckets() of nil = %+v", l)
	}
	if c := h.Count(); c != (sat.Count{}) {
		t.Errorf("P11.1: Count() of nil = %+v", c)
	}
	if c := h.Sum(); c != (sat.Count{}) {
		t.Errorf("P11.1: Sum() of nil = %+v", c)
	}
	if h.Full() {
		t.Error("P11.1: Full() of nil")
	}
}

func TestP11_2JoinKnown(t *testing.T) {
	h, o := made(t, []uint64{10, 20}, 10, 11, 11), made(t, []uint64{10, 20}, 3, 21, 22, 23)
	if e := h.Join(o); e != api.OK {
		t.Fatalf("P11.2: Join = %d", e)
	}
	check(t, "P11.2: Join", h, told{buckets: counts(2, 2, 3), count: sat.Count{N: 7}, sum: sat.Count{N: 101}})
	check(t, "P11.2: what is joined", o, told{buckets: counts(1, 0, 3), count: sat.Count{N: 4}, sum: sat.Count{N: 69}})
}

func TestP11_2JoinByWords(t *testing.T) {
	for name, bounds := range rightBounds() {
		few, all := small(bounds), numbers(bounds)
		for what, x := range map[string][2][]uint64{
			"both empty":       {nil, nil},
			"it is empty":      {nil, few},
			"the other is":     {few, nil},
			"ordinary":         {few[:len(few)/3], few[len(few)/3:]},
			"it is full":       {all, few},
			"the other's full": {few, all},
			"both are full":    {all, all},
			"full together":    {{1<<63 - 1}, {1}},
			"just not full":    {{1<<63 - 2}, {1}},
		} {
			h, o := made(t, bounds, x[0]...), made(t, bounds, x[1]...)
			w := newTally(bounds)
			for _, n := range slices.Concat(x[0], x[1]) {
				w.put(n)
			}
			if e := h.Join(o); e != api.OK {
				t.Errorf("P11.2: %s, %s: Join = %d", name, what, e)
			}
			check(t, "P11.2: "+name+", "+what, h, w.told())
			check(t, "P11.2: "+name+", "+what+": what is joined", o, wantOf(bounds, x[1]...))
		}
	}
}

func TestP11_2JoinOfOneWhoseSumIsFull(t *testing.T) {
	bounds := []uint64{10, 20, 50}
	full := made(t, bounds, 0, 1<<62, 1<<62)
	h := made(t, bounds, 15)
	if e := h.Join(full); e != api.OK {
		t.Fatalf("P11.2: Join = %d", e)
	}
	check(t, "P11.2: one that is full", h, told{buckets: counts(1, 1, 0, 2), count: sat.Count{N: 4}, sum: isFull, full: true})
	if e := full.Join(made(t, bounds, 15)); e != api.OK {
		t.Fatalf("P11.2: Join = %d", e)
	}
	check(t, "P11.2: to one that is full", full, told{buckets: counts(1, 1, 0, 2), count: sat.Count{N: 4}, sum: isFull, full: true})
	empty := made(t, bounds)
	empty.Join(full)
	check(t, "P11.2: one that is full to none", empty, toldBy(full))
	full.Join(made(t, bounds))
	check(t, "P11.2: none to one that is full", full, toldBy(empty))
}

// TestP11_2JoinOfOneWhoseCountsAreFull joins to one that is empty: that the other's are full is all that makes it so.
func TestP11_2JoinOfOneWhoseCountsAreFull(t *testing.T) {
	for _, n := range []uint64{0, 15, 60} {
		bounds := []uint64{10, 20, 50}
		full, empty := times(t, made(t, bounds, n), 70), made(t, bounds)
		want := told{buckets: make([]sat.Count, 4), count: isFull, full: true}
		want.buckets[wantBucket(bounds, n)] = isFull
		if n > 0 {
			want.sum = isFull
		}
		if e := empty.Join(full); e != api.OK {
			t.Fatalf("P11.2: Join = %d", e)
		}
		check(t, "P11.2: counts that are full to none", empty, want)
		check(t, "P11.2: counts that are full, joined", full, want)
	}
}

func TestP11_2JoinOfItself(t *testing.T) {
	for name, bounds := range rightBounds() {
		for _, l := range [][]uint64{nil, {7}, small(bounds), numbers(bounds)} {
			h, w := made(t, bounds, l...), newTally(bounds)
			for _, n := range l {
				w.put(n)
			}
			for range 70 {
				if e := h.Join(h); e != api.OK {
					t.Fatalf("P11.2: %s: Join of itself = %d", name, e)
				}
				w.join(w)
				check(t, "P11.2: "+name+": itself", h, w.told())
			}
		}
	}
}

func TestP11_2JoinOfOtherBounds(t *testing.T) {
	pairs := map[string][2][]uint64{
		"none and one":            {nil, {10}},
		"none and 0":              {nil, {0}},
		"none and 32":             {nil, rising(32, 1, 1)},
		"one and another":         {{10}, {11}},
		"0 and the last":          {{0}, {math.MaxUint64}},
		"fewer":                   {{10, 20, 50}, {10, 20}},
		"fewer, not the first":    {{10, 20, 50}, {20, 50}},
		"as many, the first":      {{10, 20, 50}, {9, 20, 50}},
		"as many, amid":           {{10, 20, 50}, {10, 21, 50}},
		"as many, the last":       {{10, 20, 50}, {10, 20, 51}},
		"as many, the end of all": {{10, 20, 50}, {10, 20, math.MaxUint64}},
		"31 and 32":               {rising(31, 5, 7), rising(32, 5, 7)},
		"32 and 32":               {rising(32, 5, 7), rising(32, 6, 7)},
		"alike in 32 bits":        {{1}, {1<<32 + 1}},
	}
	for name, x := range pairs {
		for _, numbered := range [][2][]uint64{{nil, nil}, {{1, 15, 60}, nil}, {nil, {1, 15, 60}}, {{1, 15, 60}, {2, 1 << 63}}} {
			for turned := range 2 {
				a, b := x[turned], x[1-turned]
				h, o := made(t, a, numbered[0]...), made(t, b, numbered[1]...)
				if e := h.Join(o); e != api.ErrArg {
					t.Errorf("P11.2: %s: Join = %d", name, e)
				}
				check(t, "P11.2: "+name+": it", h, wantOf(a, numbered[0]...))
				check(t, "P11.2: "+name+": the other", o, wantOf(b, numbered[1]...))
			}
		}
	}
}

func TestP11_2JoinOfBoundsThatAreTheSame(t *testing.T) {
	for name, bounds := range rightBounds() {
		apart := slices.Clone(bounds)
		if e := made(t, bounds, 3).Join(made(t, apart, 4)); e != api.OK {
			t.Errorf("P11.2: %s: Join = %d", name, e)
		}
	}
	for _, x := range [][2][]uint64{{nil, {}}, {{}, nil}} {
		h := made(t, x[0], 3)
		if e := h.Join(made(t, x[1], 4)); e != api.OK {
			t.Errorf("P11.2: Join of none to none = %d", e)
		}
		check(t, "P11.2: none and none", h, wantOf(nil, 3, 4))
	}
}

// TestP11_2JoinOfNil has bounds on the one side alone, so that ErrArg would be told if bounds were held against each
// other first.
func TestP11_2JoinOfNil(t *testing.T) {
	var none *Hist
	if e := none.Join(none); e != api.ErrNil {
		t.Errorf("P11.2: nil.Join(nil) = %d", e)
	}
	for name, bounds := range rightBounds() {
		h := made(t, bounds, 3, 1<<63)
		if e := h.Join(nil); e != api.ErrNil {
			t.Errorf("R2: %s: Join(nil) = %d", name, e)
		}
		if e := none.Join(h); e != api.ErrNil {
			t.Errorf("R2: %s: nil.Join = %d", name, e)
		}
		check(t, "P11.2: "+name+" and nil", h, wantOf(bounds, 3, 1<<63))
	}
}

func TestP11_3AllBucketsTogetherAreTheCount(t *testing.T) {
	for name, bounds := range rightBounds() {
		h := made(t, bounds)
		for i, n := range numbers(bounds) {
			h.Put(n)
			var all sat.Count
			for _, c := range h.Buckets() {
				all = all.Join(c)
			}
			if all != h.Count() || all.N != uint64(i+1) || len(h.Buckets()) != len(bounds)+1 {
				t.Errorf("P11.3: %s: Buckets() = %+v, Count() = %+v", name, h.Buckets(), h.Count())
			}
		}
	}
}

func TestP11_3InWhateverOrder(t *testing.T) {
	r := rand.New(rand.NewSource(3))
	for name, bounds := range rightBounds() {
		for _, l := range [][]uint64{small(bounds), numbers(bounds)} {
			want := toldBy(made(t, bounds, l...))
			slices.Reverse(l)
			check(t, "P11.3: "+name+", backward", made(t, bounds, l...), want)
			slices.Sort(l)
			check(t, "P11.3: "+name+", sorted", made(t, bounds, l...), want)
			for range 5 {
				r.Shuffle(len(l), func(i, j int) { l[i], l[j] = l[j], l[i] })
				check(t, "P11.3: "+name+", shuffled", made(t, bounds, l...), want)
			}
		}
	}
}

func TestP11_3PutToTwoAndJoined(t *testing.T) {
	for name, bounds := range rightBounds() {
		for _, l := range [][]uint64{small(bounds), numbers(bounds), {10, 10, 20, 20}} {
			want := toldBy(made(t, bounds, l...))
			for at := range len(l) + 1 {
				one, other := made(t, bounds, l[:at]...), made(t, bounds, l[at:]...)
				turned := made(t, bounds, l[at:]...)
				turned.Join(one)
				one.Join(other)
				check(t, "P11.3: "+name+", cut at "+strconv.Itoa(at), one, want)
				check(t, "P11.3: "+name+", the other way about", turned, want)
			}
		}
	}
}

func TestP11_3PutToManyAndJoined(t *testing.T) {
	r := rand.New(rand.NewSource(4))
	for name, bounds := range rightBounds() {
		l := numbers(bounds)
		want := toldBy(made(t, bounds, l...))
		parts := make([]*Hist, 5)
		for i := range parts {
			parts[i] = made(t, bounds)
		}
		for _, n := range l {
			parts[r.Intn(len(parts))].Put(n)
		}
		all := made(t, bounds)
		for _, i := range r.Perm(len(parts)) {
			all.Join(parts[i])
		}
		check(t, "P11.3: "+name+", one by one", all, want)
		parts[0].Join(parts[1])
		parts[3].Join(parts[2])
		parts[4].Join(parts[3])
		parts[4].Join(parts[0])
		check(t, "P11.3: "+name+", two by two", parts[4], want)
	}
}

// TestR1BucketOfNoBounds asks for no more than an answer: of lists that New refuses the chapter leaves open which.
func TestR1BucketOfNoBounds(t *testing.T) {
	for _, l := range wrongBounds() {
		for _, n := range numbers(l[:min(len(l), 100)]) {
			Bucket(l, n)
		}
	}
}

func TestR1NilThatNewTold(t *testing.T) {
	for name, l := range wrongBounds() {
		h, _ := New(l)
		if h.Put(3) != api.ErrNil || h.Join(h) != api.ErrNil || len(h.Buckets()) != 0 || h.Full() {
			t.Errorf("R1: %s: %+v", name, toldBy(h))
		}
	}
}

// TestR1NotMadeByNew: one that nobody made by New has no bounds.
func TestR1NotMadeByNew(t *testing.T) {
	var h Hist
	check(t, "R1: not made by New", &h, wantOf(nil))
	if e := h.Put(3); e != api.OK {
		t.Errorf("R1: Put to one that isn't made by New = %d", e)
	}
	if e := h.Join(&h); e != api.OK {
		t.Errorf("R1: Join of itself, not made by New = %d", e)
	}
	check(t, "R1: not made by New", &h, wantOf(nil, 3, 3))
	if e := h.Join(made(t, nil, 4)); e != api.OK {
		t.Errorf("R1: Join to one that isn't made by New = %d", e)
	}
	if e := h.Join(made(t, []uint64{10}, 4)); e != api.ErrArg {
		t.Errorf("R1: Join of other bounds to one that isn't made by New = %d", e)
	}
	check(t, "R1: not made by New", &h, wantOf(nil, 3, 3, 4))
	byNew := made(t, nil, 1<<63)
	if e := byNew.Join(&h); e != api.OK {
		t.Errorf("R1: Join of one that isn't made by New = %d", e)
	}
	check(t, "R1: one that isn't made by New is joined", byNew, wantOf(nil, 3, 3, 4, 1<<63))
}

func TestR4HandedInStays(t *testing.T) {
	for _, lists := range []map[string][]uint64{rightBounds(), wrongBounds()} {
		for name, l := range lists {
			was := slices.Clone(l)
			h, _ := New(l)
			h.Put(3)
			h.Put(math.MaxUint64)
			Bucket(l, 3)
			Bucket(l, math.MaxUint64)
			if !slices.Equal(l, was) {
				t.Errorf("R4: %s: changed", name)
			}
		}
	}
}

func TestR4BoundsMayBeChangedBehind(t *testing.T) {
	for name, bounds := range rightBounds() {
		l := slices.Clone(bounds)
		h, o := made(t, l), made(t, l)
		for i := range l {
			l[i] = math.MaxUint64 - l[i]
		}
		slices.Reverse(l)
		for _, n := range numbers(bounds) {
			h.Put(n)
		}
		check(t, "R4: "+name+", changed behind", h, wantOf(bounds, numbers(bounds)...))
		if e := h.Join(o); e != api.OK {
			t.Errorf("R4: %s, changed behind: Join = %d", name, e)
		}
		if e := h.Join(made(t, bounds)); e != api.OK {
			t.Errorf("R4: %s, changed behind: Join of the bounds as they were = %d", name, e)
		}
	}
}

func TestR4NothingBehindThePieceIsTouched(t *testing.T) {
	l := []uint64{10, 20, 30, 40}
	h := made(t, l[:2], 25)
	h.Put(35)
	if !slices.Equal(l, []uint64{10, 20, 30, 40}) {
		t.Errorf("R4: behind a piece: %d", l)
	}
	check(t, "R4: of a piece", h, wantOf([]uint64{10, 20}, 25, 35))
}

func TestR4WhatBucketsTellsIsTheCallers(t *testing.T) {
	for name, bounds := range rightBounds() {
		h := made(t, bounds, numbers(bounds)...)
		want := wantOf(bounds, numbers(bounds)...)
		one, other := h.Buckets(), h.Buckets()
		for i := range one {
			one[i] = sat.Count{N: 99, Full: true}
		}
		grown := append(one[:0], counts(1, 2, 3)...)
		if !slices.Equal(other, want.buckets) {
			t.Errorf("R4: %s: another answer is %+v, behind %+v", name, other, grown)
		}
		check(t, "R4: "+name, h, want)
		h.Put(3)
		if !slices.Equal(other, want.buckets) {
			t.Errorf("R4: %s: Put changed what was told to %+v", name, other)
		}
	}
}

func TestR4JoinKeepsNothingOfTheOther(t *testing.T) {
	for name, bounds := range rightBounds() {
		h, o := made(t, bounds), made(t, bounds, 3, 4)
		h.Join(o)
		o.Put(5)
		check(t, "R4: "+name+": joined, then the other changed", h, wantOf(bounds, 3, 4))
		h.Put(6)
		h.Put(7)
		check(t, "R4: "+name+": joined, then it changed", o, wantOf(bounds, 3, 4, 5))
	}
}

func TestR6NothingIsKept(t *testing.T) {
	bounds := []uint64{10, 20}
	first := made(t, bounds, 3)
	for name, l := range rightBounds() {
		times(t, made(t, l, numbers(l)...), 64)
		check(t, "R6: an empty one behind "+name, made(t, bounds), wantOf(bounds))
		check(t, "R6: one behind "+name, first, wantOf(bounds, 3))
	}
	for range 3 {
		check(t, "R6: asked again", first, wantOf(bounds, 3))
	}
}

// parted reads numbers from bytes, eight a number.
func parted(b []byte) []uint64 {
	var l []uint64
	for len(b) >= 8 {
		l = append(l, binary.LittleEndian.Uint64(b))
		b = b[8:]
	}
	return l
}

func FuzzHist(f *testing.F) {
	asBytes := func(l []uint64) []byte {
		var b []byte
		for _, n := range l {
			b = binary.LittleEndian.AppendUint64(b, n)
		}
		return b
	}
	for _, lists := range []map[string][]uint64{rightBounds(), wrongBounds()} {
		for _, l := range lists {
			if len(l) <= 64 {
				f.Add(asBytes(l), asBytes(numbers(l)), uint8(7))
			}
		}
	}
	f.Fuzz(func(t *testing.T, b, put []byte, at uint8) {
		bounds, l := parted(b), parted(put)
		h, e := New(bounds)
		for _, n := range l {
			got := Bucket(bounds, n)
			if e == api.OK && got != wantBucket(bounds, n) {
				t.Fatalf("P11.1: Bucket(%d, %d) = %d", bounds, n, got)
			}
		}
		if (e == api.OK) != wantBounds(bounds) || (h == nil) != (e == api.ErrArg) {
			t.Fatalf("P11.1: New(%d) = %v, %d", bounds, h, e)
		}
		if e != api.OK {
			return
		}
		cut := min(int(at), len(l))
		one, other := made(t, bounds, l[:cut]...), made(t, bounds, l[cut:]...)
		for _, n := range l {
			h.Put(n)
		}
		want := wantOf(bounds, l...)
		check(t, "P11.1: Put", h, want)
		if e := one.Join(other); e != api.OK {
			t.Fatalf("P11.2: Join = %d", e)
		}
		check(t, "P11.3: put to two and joined", one, want)
	})
}
