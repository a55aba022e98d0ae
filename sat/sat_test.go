package sat

import (
	"math"
	"math/big"
	"math/rand"
	"slices"
	"strconv"
	"testing"
)

// numbers has numbers from none to the greatest of 64 bits: ordinary ones, those about each power of two, and those
// of which two together are about 2^63 - 1, or go round.
func numbers() []uint64 {
	l := []uint64{0, 1, 2, 3, 5, 7, 10, 100, 1000, 12345, Most / 2, Most/2 + 1, Most / 3, Most - 7, Most - 2, Most - 1, Most, Most + 1, Most + 2, Most + 3, math.MaxUint64 - 7, math.MaxUint64 - 2, math.MaxUint64 - 1, math.MaxUint64}
	for i := range 64 {
		l = append(l, 1<<i-1, 1<<i, 1<<i+1, ^uint64(1<<i))
	}
	r := rand.New(rand.NewSource(1))
	for range 40 {
		l = append(l, r.Uint64(), r.Uint64()>>r.Intn(64))
	}
	return l
}

// rightCounts has counts that are right: not full up to Most, and the full one.
func rightCounts() []Count {
	l := []Count{{N: 9223372036854775807, Full: true}}
	for _, n := range numbers() {
		if n <= 9223372036854775807 {
			l = append(l, Count{N: n})
		}
	}
	return l
}

// wrongCounts has counts that can't be: above Most, full or not, and full below it.
func wrongCounts() []Count {
	var l []Count
	for _, n := range numbers() {
		if n > 9223372036854775807 {
			l = append(l, Count{N: n})
		}
		if n != 9223372036854775807 {
			l = append(l, Count{N: n, Full: true})
		}
	}
	return l
}

// lists has lists of no number, of one, of several, and of many, some of which become full on the way.
func lists() map[string][]uint64 {
	out := map[string][]uint64{
		"nil":                     nil,
		"none":                    {},
		"zeros":                   make([]uint64, 100),
		"several":                 {1, 2, 3, 4},
		"the same, twice":         {7, 7},
		"most and 0":              {Most, 0},
		"0 and most":              {0, Most},
		"most and 1":              {Most, 1},
		"1 and most":              {1, Most},
		"most by two":             {1 << 62, 1<<62 - 1},
		"one more by two":         {1 << 62, 1 << 62},
		"most by many":            append(slices.Repeat([]uint64{1 << 55}, 255), 1<<55-1),
		"one more by many":        slices.Repeat([]uint64{1 << 55}, 256),
		"full, then ordinary":     {Most, 1, 2, 3},
		"full, then zeros":        {Most, 1, 0, 0},
		"full amid":               {1, 2, Most, 3, 4},
		"round to nothing":        {1 << 63, 1 << 63},
		"round to nothing by 1":   {math.MaxUint64, 1},
		"round by two":            {math.MaxUint64, math.MaxUint64},
		"round twice":             slices.Repeat([]uint64{1 << 63}, 4),
		"round by many":           slices.Repeat([]uint64{1 << 62}, 8),
		"round to an ordinary":    {1, 2, math.MaxUint64, 4},
		"round below what it was": {Most - 1, math.MaxUint64 - Most + 3},
		"many":                    slices.Repeat([]uint64{3}, 100000),
	}
	for _, n := range numbers() {
		out["one: "+strconv.FormatUint(n, 10)] = []uint64{n}
	}
	r := rand.New(rand.NewSource(2))
	for i := range 200 {
		l := make([]uint64, r.Intn(20))
		for j := range l {
			l[j] = r.Uint64() >> r.Intn(12)
		}
		out["noise "+strconv.Itoa(i)] = l
	}
	return out
}

// The calls, by the document's words, in numbers that have no end.

// most is 2^63 - 1.
func most() *big.Int {
	m := new(big.Int).Lsh(big.NewInt(1), 63)
	return m.Sub(m, big.NewInt(1))
}

// asCount is the count to which so much was added in all.
func asCount(all *big.Int) Count {
	if all.Cmp(most()) > 0 {
		return Count{N: most().Uint64(), Full: true}
	}
	return Count{N: all.Uint64()}
}

func asBig(n uint64) *big.Int { return new(big.Int).SetUint64(n) }

func wantAdd(c Count, n uint64) Count {
	if c.Full {
		return Count{N: most().Uint64(), Full: true}
	}
	return asCount(new(big.Int).Add(asBig(c.N), asBig(n)))
}

func wantJoin(c, d Count) Count {
	if c.Full || d.Full {
		return Count{N: most().Uint64(), Full: true}
	}
	return wantAdd(c, d.N)
}

func wantSum(l []uint64) Count {
	all := new(big.Int)
	for _, n := range l {
		all.Add(all, asBig(n))
	}
	return asCount(all)
}

func wantRight(c Count) bool {
	at := asBig(c.N).Cmp(most())
	return at <= 0 && (!c.Full || at == 0)
}

// below says whether a count is less than another one; a full one is above all others.
func below(c, d Count) bool {
	if c.Full != d.Full {
		return d.Full
	}
	return c.N < d.N
}

func TestP10_1MostIsTheChapters(t *testing.T) {
	if Most != 9223372036854775807 {
		t.Errorf("P10.1: Most is %d", Most)
	}
}

func TestP10_1RightKnown(t *testing.T) {
	for c, want := range map[Count]bool{
		{}:                               true,
		{N: 1}:                           true,
		{N: 1000}:                        true,
		{N: 1<<63 - 2}:                   true,
		{N: 1<<63 - 1}:                   true,
		{N: 1<<63 - 1, Full: true}:       true,
		{N: 1 << 63}:                     false,
		{N: 1 << 63, Full: true}:         false,
		{N: 1<<63 + 1}:                   false,
		{N: math.MaxUint64}:              false,
		{N: math.MaxUint64, Full: true}:  false,
		{Full: true}:                     false,
		{N: 1, Full: true}:               false,
		{N: 5, Full: true}:               false,
		{N: 1<<63 - 2, Full: true}:       false,
		{N: math.MaxUint64 - 1}:          false,
		{N: 1<<63 + 1, Full: true}:       false,
		{N: 1<<62 + 1<<61, Full: true}:   false,
		{N: 1<<62 + 1<<61, Full: false}:  true,
		{N: 3 << 62, Full: false}:        false,
		{N: math.MaxUint32, Full: false}: true,
	} {
		if got := c.Right(); got != want {
			t.Errorf("P10.1: %+v.Right() = %v, want %v", c, got, want)
		}
	}
}

func TestP10_1RightByWords(t *testing.T) {
	for _, c := range rightCounts() {
		if !c.Right() || !wantRight(c) {
			t.Errorf("P10.1: %+v.Right() = %v", c, c.Right())
		}
	}
	for _, c := range wrongCounts() {
		if c.Right() || wantRight(c) {
			t.Errorf("P10.1: %+v.Right() = %v", c, c.Right())
		}
	}
}

func TestP10_1AddNone(t *testing.T) {
	for _, c := range rightCounts() {
		if got := c.Add(0); got != c {
			t.Errorf("P10.1: %+v.Add(0) = %+v", c, got)
		}
	}
}

func TestP10_1AddKnown(t *testing.T) {
	isFull := Count{N: 1<<63 - 1, Full: true}
	for _, x := range []struct {
		c    Count
		n    uint64
		want Count
	}{
		{Count{}, 0, Count{}},
		{Count{}, 1, Count{N: 1}},
		{Count{N: 1}, 1, Count{N: 2}},
		{Count{N: 40}, 2, Count{N: 42}},
		{Count{N: 1 << 32}, 1 << 32, Count{N: 1 << 33}},
		{Count{}, 1<<63 - 1, Count{N: 1<<63 - 1}},
		{Count{N: 1<<63 - 1}, 0, Count{N: 1<<63 - 1}},
		{Count{N: 1<<63 - 2}, 1, Count{N: 1<<63 - 1}},
		{Count{N: 1}, 1<<63 - 2, Count{N: 1<<63 - 1}},
		{Count{N: 1 << 62}, 1<<62 - 1, Count{N: 1<<63 - 1}},
		{Count{N: 1<<63 - 1}, 1, isFull},
		{Count{N: 1}, 1<<63 - 1, isFull},
		{Count{N: 1<<63 - 2}, 2, isFull},
		{Count{N: 1 << 62}, 1 << 62, isFull},
		{Count{N: 1<<63 - 1}, 1<<63 - 1, isFull},
		{Count{N: 1<<63 - 1}, 1 << 63, isFull},
		{Count{}, 1 << 63, isFull},
		{Count{}, math.MaxUint64, isFull},
		{Count{N: 1}, math.MaxUint64, isFull},
		{Count{N: 2}, math.MaxUint64, isFull},
		{Count{N: 1<<63 - 1}, 1<<63 + 1, isFull},
		{Count{N: 1<<63 - 1}, math.MaxUint64, isFull},
		{isFull, 0, isFull},
		{isFull, 1, isFull},
		{isFull, 1 << 63, isFull},
		{isFull, 1<<63 + 1, isFull},
		{isFull, math.MaxUint64, isFull},
	} {
		if got := x.c.Add(x.n); got != x.want {
			t.Errorf("P10.1: %+v.Add(%d) = %+v, want %+v", x.c, x.n, got, x.want)
		}
	}
}

func TestP10_1AddByWords(t *testing.T) {
	for _, c := range rightCounts() {
		for _, n := range numbers() {
			got, want := c.Add(n), wantAdd(c, n)
			if got != want {
				t.Errorf("P10.1: %+v.Add(%d) = %+v, want %+v", c, n, got, want)
			}
			if !got.Right() {
				t.Errorf("P10.1: %+v.Add(%d) isn't right: %+v", c, n, got)
			}
		}
	}
}

func TestP10_1AddOneByOne(t *testing.T) {
	var c Count
	for i := range uint64(1000) {
		if c != (Count{N: i}) {
			t.Fatalf("P10.1: %d added one by one: %+v", i, c)
		}
		c = c.Add(1)
	}
	c = Count{N: Most - 1000}
	for i := range uint64(1003) {
		want := Count{N: Most - 1000 + i}
		if i > 1000 {
			want = Count{N: Most, Full: true}
		}
		if c != want {
			t.Fatalf("P10.1: %d added one by one to 1000 below Most: %+v, want %+v", i, c, want)
		}
		c = c.Add(1)
	}
}

func TestP10_1JoinKnown(t *testing.T) {
	isFull := Count{N: 1<<63 - 1, Full: true}
	for _, x := range []struct{ c, d, want Count }{
		{Count{}, Count{}, Count{}},
		{Count{N: 3}, Count{}, Count{N: 3}},
		{Count{}, Count{N: 3}, Count{N: 3}},
		{Count{N: 3}, Count{N: 4}, Count{N: 7}},
		{Count{N: 1<<63 - 1}, Count{}, Count{N: 1<<63 - 1}},
		{Count{}, Count{N: 1<<63 - 1}, Count{N: 1<<63 - 1}},
		{Count{N: 1 << 62}, Count{N: 1<<62 - 1}, Count{N: 1<<63 - 1}},
		{Count{N: 1 << 62}, Count{N: 1 << 62}, isFull},
		{Count{N: 1<<63 - 1}, Count{N: 1}, isFull},
		{Count{N: 1}, Count{N: 1<<63 - 1}, isFull},
		{Count{N: 1<<63 - 1}, Count{N: 1<<63 - 1}, isFull},
		{isFull, Count{}, isFull},
		{Count{}, isFull, isFull},
		{isFull, Count{N: 3}, isFull},
		{Count{N: 3}, isFull, isFull},
		{isFull, Count{N: 1<<63 - 1}, isFull},
		{Count{N: 1<<63 - 1}, isFull, isFull},
		{isFull, isFull, isFull},
	} {
		if got := x.c.Join(x.d); got != x.want {
			t.Errorf("P10.1: %+v.Join(%+v) = %+v, want %+v", x.c, x.d, got, x.want)
		}
	}
}

func TestP10_1JoinByWords(t *testing.T) {
	for _, c := range rightCounts() {
		for _, d := range rightCounts() {
			got, want := c.Join(d), wantJoin(c, d)
			if got != want {
				t.Errorf("P10.1: %+v.Join(%+v) = %+v, want %+v", c, d, got, want)
			}
			if !got.Right() {
				t.Errorf("P10.1: %+v.Join(%+v) isn't right: %+v", c, d, got)
			}
			if !d.Full && got != c.Add(d.N) {
				t.Errorf("P10.1: %+v.Join(%+v) = %+v, Add of its N is %+v", c, d, got, c.Add(d.N))
			}
		}
	}
}

func TestP10_1SumKnown(t *testing.T) {
	isFull := Count{N: 1<<63 - 1, Full: true}
	for name, want := range map[string]Count{
		"nil":                     {},
		"none":                    {},
		"zeros":                   {},
		"several":                 {N: 10},
		"the same, twice":         {N: 14},
		"most and 0":              {N: 1<<63 - 1},
		"0 and most":              {N: 1<<63 - 1},
		"most and 1":              isFull,
		"1 and most":              isFull,
		"most by two":             {N: 1<<63 - 1},
		"one more by two":         isFull,
		"most by many":            {N: 1<<63 - 1},
		"one more by many":        isFull,
		"full, then ordinary":     isFull,
		"full, then zeros":        isFull,
		"full amid":               isFull,
		"round to nothing":        isFull,
		"round to nothing by 1":   isFull,
		"round by two":            isFull,
		"round twice":             isFull,
		"round by many":           isFull,
		"round to an ordinary":    isFull,
		"round below what it was": isFull,
		"many":                    {N: 300000},
	} {
		l, there := lists()[name]
		if !there {
			t.Fatalf("no list %q", name)
		}
		if got := Sum(l); got != want {
			t.Errorf("P10.1: Sum of %s = %+v, want %+v", name, got, want)
		}
	}
}

func TestP10_1SumByWords(t *testing.T) {
	for name, l := range lists() {
		got, want := Sum(l), wantSum(l)
		if got != want {
			t.Errorf("P10.1: Sum of %s = %+v, want %+v", name, got, want)
		}
		if !got.Right() {
			t.Errorf("P10.1: Sum of %s isn't right: %+v", name, got)
		}
	}
}

func TestP10_1SumOfTwo(t *testing.T) {
	for _, a := range numbers() {
		for _, b := range numbers() {
			l := []uint64{a, b}
			if got, want := Sum(l), wantSum(l); got != want {
				t.Errorf("P10.1: Sum(%d) = %+v, want %+v", l, got, want)
			}
		}
	}
}

func TestP10_1SumIsAddOfEach(t *testing.T) {
	for name, l := range lists() {
		var c Count
		for _, n := range l {
			c = c.Add(n)
		}
		if got := Sum(l); got != c {
			t.Errorf("P10.1: Sum of %s = %+v, one by one %+v", name, got, c)
		}
	}
}

func TestP10_2TheOrderPlaysNoPart(t *testing.T) {
	r := rand.New(rand.NewSource(3))
	for name, l := range lists() {
		want := wantSum(l)
		turned := slices.Clone(l)
		slices.Reverse(turned)
		sorted := slices.Sorted(slices.Values(l))
		for _, m := range [][]uint64{turned, sorted} {
			if got := Sum(m); got != want {
				t.Errorf("P10.2: %s in another order: %+v, want %+v", name, got, want)
			}
		}
		for range 5 {
			r.Shuffle(len(turned), func(i, j int) { turned[i], turned[j] = turned[j], turned[i] })
			if got := Sum(turned); got != want {
				t.Errorf("P10.2: %s in another order: %+v, want %+v", name, got, want)
			}
		}
	}
}

func TestP10_2TheOrderOfTwoPlaysNoPart(t *testing.T) {
	few := numbers()[:40]
	for _, c := range rightCounts() {
		for _, a := range few {
			for _, b := range few {
				if one, other := c.Add(a).Add(b), c.Add(b).Add(a); one != other {
					t.Errorf("P10.2: to %+v %d and %d: %+v, the other way about %+v", c, a, b, one, other)
				}
			}
		}
	}
}

func TestP10_2JoinedInPieces(t *testing.T) {
	for name, l := range lists() {
		want := wantSum(l)
		for at := 0; at <= len(l); at += 1 + len(l)/10 {
			a, b := Sum(l[:at]), Sum(l[at:])
			if got := a.Join(b); got != want {
				t.Errorf("P10.2: %s cut at %d: %+v, want %+v", name, at, got, want)
			}
			if got := b.Join(a); got != want {
				t.Errorf("P10.2: %s cut at %d, the other way about: %+v, want %+v", name, at, got, want)
			}
		}
	}
}

func TestP10_2JoinInWhateverOrder(t *testing.T) {
	all := rightCounts()
	few := append(slices.Clone(all[:30]), all[len(all)-20:]...)
	for _, c := range few {
		for _, d := range few {
			if one, other := c.Join(d), d.Join(c); one != other {
				t.Errorf("P10.2: %+v and %+v: %+v, the other way about %+v", c, d, one, other)
			}
			for _, e := range few {
				if one, other := c.Join(d).Join(e), c.Join(d.Join(e)); one != other {
					t.Errorf("P10.2: %+v, %+v and %+v: %+v, the last two first %+v", c, d, e, one, other)
				}
			}
		}
	}
}

func TestP10_2ACountNeverFalls(t *testing.T) {
	for _, c := range rightCounts() {
		for _, n := range numbers() {
			if got := c.Add(n); below(got, c) || n > 0 && !c.Full && !below(c, got) {
				t.Errorf("P10.2: %+v.Add(%d) = %+v", c, n, got)
			}
		}
		for _, d := range rightCounts() {
			if got := c.Join(d); below(got, c) || below(got, d) {
				t.Errorf("P10.2: %+v.Join(%+v) = %+v", c, d, got)
			}
		}
	}
}

func TestP10_2ASumNeverFalls(t *testing.T) {
	for name, l := range lists() {
		if len(l) > 1000 {
			continue
		}
		var before Count
		for i := range l {
			now := Sum(l[:i+1])
			if below(now, before) || before.Full && !now.Full {
				t.Errorf("P10.2: %s: of %d it is %+v, of one less %+v", name, i+1, now, before)
			}
			before = now
		}
	}
}

// TestR1WrongCounts asks for no more than an answer: what it is the chapter leaves open.
func TestR1WrongCounts(t *testing.T) {
	all := append(wrongCounts(), rightCounts()...)
	for _, c := range wrongCounts() {
		for _, n := range numbers() {
			c.Add(n)
		}
		for _, d := range all {
			c.Join(d)
			d.Join(c)
		}
		c.Right()
	}
}

func TestR4HandedInStays(t *testing.T) {
	for _, c := range append(wrongCounts(), rightCounts()...) {
		was := c
		for _, n := range numbers() {
			c.Add(n)
			if c != was {
				t.Fatalf("R4: Add(%d) made %+v of %+v", n, c, was)
			}
		}
		for _, d := range append(wrongCounts()[:20], rightCounts()[:20]...) {
			wasD := d
			c.Join(d)
			if c != was || d != wasD {
				t.Fatalf("R4: Join made %+v of %+v, %+v of %+v", c, was, d, wasD)
			}
		}
		c.Right()
		if c != was {
			t.Fatalf("R4: Right made %+v of %+v", c, was)
		}
	}
	for name, l := range lists() {
		was := slices.Clone(l)
		Sum(l)
		if !slices.Equal(l, was) {
			t.Errorf("R4: Sum changed %s", name)
		}
	}
}

func TestR4SumTouchesNothingBehind(t *testing.T) {
	l := []uint64{1, 2, 3, 4}
	if got := Sum(l[1:2]); got != (Count{N: 2}) || !slices.Equal(l, []uint64{1, 2, 3, 4}) {
		t.Errorf("R4: Sum of a piece = %+v, and leaves %d", got, l)
	}
}

func TestR4WhatIsToldIsNew(t *testing.T) {
	c := Count{N: 3}
	for name, told := range map[string]Count{
		"Add(0)":       c.Add(0),
		"Add(1)":       c.Add(1),
		"Join(none)":   c.Join(Count{}),
		"Join(itself)": c.Join(c),
		"Sum":          Sum([]uint64{3}),
	} {
		told.N, told.Full = 99, true
		if c != (Count{N: 3}) {
			t.Errorf("R4: what %s told is the count that was handed in: %+v", name, c)
		}
		c = Count{N: 3}
	}
	isFull := Count{N: Most}.Add(1)
	isFull.N = 0
	if got := (Count{N: Most}).Add(1); got != (Count{N: Most, Full: true}) {
		t.Errorf("R4: what was told was changed, and now a full one is %+v", got)
	}
}

func TestR6NothingIsKept(t *testing.T) {
	want := Sum([]uint64{1, 2})
	for name, l := range lists() {
		Sum(l)
		Count{N: Most}.Add(1)
		Count{N: 1, Full: true}.Join(Count{N: 2})
		if got := Sum([]uint64{1, 2}); got != want {
			t.Fatalf("R6: behind %s Sum is %+v, want %+v", name, got, want)
		}
	}
}

func FuzzCount(f *testing.F) {
	for _, n := range numbers()[:24] {
		f.Add(n, false, n, false)
		f.Add(n, true, Most-n, false)
		f.Add(uint64(1), false, n, true)
	}
	f.Fuzz(func(t *testing.T, n uint64, nFull bool, m uint64, mFull bool) {
		c, d := Count{N: n, Full: nFull}, Count{N: m, Full: mFull}
		if c.Right() != wantRight(c) {
			t.Fatalf("P10.1: %+v.Right() = %v", c, c.Right())
		}
		added, joined := c.Add(m), c.Join(d)
		if got, want := Sum([]uint64{n, m}), wantSum([]uint64{n, m}); got != want {
			t.Fatalf("P10.1: Sum(%d, %d) = %+v, want %+v", n, m, got, want)
		}
		if c.Right() && added != wantAdd(c, m) {
			t.Fatalf("P10.1: %+v.Add(%d) = %+v, want %+v", c, m, added, wantAdd(c, m))
		}
		if c.Right() && d.Right() && (joined != wantJoin(c, d) || joined != d.Join(c) || below(joined, c)) {
			t.Fatalf("P10.2: %+v.Join(%+v) = %+v, want %+v", c, d, joined, wantJoin(c, d))
		}
	})
}
