package heap

import (
	"encoding/binary"
	"math"
	"math/rand"
	"slices"
	"strconv"
	"testing"
)

// pair is an id with its time, as the tests write it.
type pair struct{ id, at uint64 }

// plain is the queue by the document's words: a list that is gone through, sorted anew by a plain exchange of neighbours.
type plain []pair

// ahead says whether the one is first of the two: the least time, of one time the least id.
func ahead(a, b pair) bool { return a.at < b.at || a.at == b.at && a.id < b.id }

func (p plain) find(id uint64) int {
	for i, x := range p {
		if x.id == id {
			return i
		}
	}
	return -1
}

func (p *plain) put(id, at uint64) bool {
	was := p.drop(id)
	*p = append(*p, pair{id, at})
	for i := len(*p) - 1; i > 0 && ahead((*p)[i], (*p)[i-1]); i-- {
		(*p)[i], (*p)[i-1] = (*p)[i-1], (*p)[i]
	}
	return !was
}

func (p *plain) drop(id uint64) bool {
	i := p.find(id)
	if i < 0 {
		return false
	}
	*p = append(slices.Clone((*p)[:i]), (*p)[i+1:]...)
	return true
}

func (p plain) until(at uint64) []uint64 {
	var l []uint64
	for _, x := range p {
		if x.at <= at {
			l = append(l, x.id)
		}
	}
	return l
}

// made has a queue into which these were put, one behind the other, and the same as a plain list.
func made(t *testing.T, l ...pair) (*Queue, *plain) {
	t.Helper()
	q, p := New(), &plain{}
	for _, x := range l {
		if got, want := q.Put(x.id, x.at), p.put(x.id, x.at); got != want {
			t.Errorf("P12.1: Put(%d, %d) = %v, want %v", x.id, x.at, got, want)
		}
	}
	return q, p
}

// checkAt asks for one id.
func checkAt(t *testing.T, what string, q *Queue, p plain, id uint64) {
	t.Helper()
	var want uint64
	i := p.find(id)
	if i >= 0 {
		want = p[i].at
	}
	if at, there := q.At(id); at != want || there != (i >= 0) {
		t.Errorf("%s: At(%d) = %d, %v, want %d, %v", what, id, at, there, want, i >= 0)
	}
}

// checkUntil asks for all up to one time.
func checkUntil(t *testing.T, what string, q *Queue, p plain, at uint64) {
	t.Helper()
	if got, want := q.Until(at), p.until(at); !slices.Equal(got, want) {
		t.Errorf("%s: Until(%d) = %d, want %d", what, at, got, want)
	}
}

// checkEnds asks for what is told without an argument, and for all.
func checkEnds(t *testing.T, what string, q *Queue, p plain) {
	t.Helper()
	var first pair
	if len(p) > 0 {
		first = p[0]
	}
	if id, at, ok := q.First(); id != first.id || at != first.at || ok != (len(p) > 0) {
		t.Errorf("%s: First() = %d, %d, %v, want %d, %v", what, id, at, ok, first, len(p) > 0)
	}
	if n := q.Len(); n != len(p) {
		t.Errorf("%s: Len() = %d, want %d", what, n, len(p))
	}
	checkUntil(t, what, q, p, math.MaxUint64)
}

// check asks for all that a queue tells: about each id and each time, and what is next to them.
func check(t *testing.T, what string, q *Queue, p plain) {
	t.Helper()
	checkEnds(t, what, q, p)
	asked := []uint64{0, 1, 2, 1<<63 - 1, 1 << 63, math.MaxUint64 - 1, math.MaxUint64}
	for _, x := range p {
		asked = append(asked, x.id-1, x.id, x.id+1, x.at-1, x.at, x.at+1)
	}
	for _, n := range asked {
		checkAt(t, what, q, p, n)
		checkUntil(t, what, q, p, n)
	}
	checkEnds(t, what+", asked", q, p)
}

// queues has what is put into queues: nothing, one, several, ids and times at their ends, and many.
func queues() map[string][]pair {
	last := uint64(math.MaxUint64)
	out := map[string][]pair{
		"none":                 nil,
		"one":                  {{7, 9}},
		"one of nothing":       {{0, 0}},
		"one at the ends":      {{last, last}},
		"0 at the end":         {{0, last}},
		"the last at 0":        {{last, 0}},
		"the example":          {{1, 9}, {2, 5}, {3, 5}},
		"the example, turned":  {{3, 5}, {2, 5}, {1, 9}},
		"several":              {{4, 40}, {1, 10}, {3, 30}, {2, 20}, {5, 50}},
		"ids against times":    {{1, 50}, {2, 40}, {3, 30}, {4, 20}, {5, 10}},
		"one time":             {{5, 3}, {2, 3}, {4, 3}, {1, 3}, {3, 3}},
		"one time, 0":          {{5, 0}, {2, 0}, {0, 0}, {last, 0}},
		"one time, the last":   {{5, last}, {0, last}, {last, last}, {last - 1, last}},
		"all ends":             {{0, last}, {last, 0}, {1, 0}, {last - 1, last}, {2, 1 << 63}, {3, 1<<63 - 1}},
		"as if signed":         {{1 << 63, 1}, {1, 1 << 63}, {1<<63 - 1, 1}, {2, 1<<63 - 1}, {3, last}},
		"alike in 32 bits":     {{1, 1 << 32}, {1<<32 + 1, 1}, {1 << 32, 1}, {0, 1<<32 + 1}},
		"the same put twice":   {{1, 9}, {2, 5}, {1, 9}, {2, 5}},
		"put again, sooner":    {{1, 9}, {2, 5}, {3, 7}, {1, 4}},
		"put again, later":     {{1, 9}, {2, 5}, {3, 7}, {2, 10}},
		"put again, to a time": {{1, 9}, {2, 5}, {3, 7}, {2, 9}, {3, 9}},
	}
	for _, n := range []int{2, 3, 4, 7, 8, 15, 16, 31, 100} {
		out["rising "+strconv.Itoa(n)] = many(n, func(i uint64) pair { return pair{i, i} })
		out["falling "+strconv.Itoa(n)] = many(n, func(i uint64) pair { return pair{i, uint64(n) - i} })
		out["few times "+strconv.Itoa(n)] = many(n, func(i uint64) pair { return pair{i * 31 % 101, i * 7 % 5} })
	}
	r := rand.New(rand.NewSource(1))
	for i := range 40 {
		ids, times := uint64(1+r.Intn(60)), uint64(1+r.Intn(20))
		out["noise "+strconv.Itoa(i)] = many(r.Intn(60), func(uint64) pair {
			return pair{r.Uint64() % ids, r.Uint64() % times}
		})
		out["far noise "+strconv.Itoa(i)] = many(r.Intn(30), func(uint64) pair {
			return pair{r.Uint64() >> r.Intn(64), r.Uint64() >> r.Intn(64)}
		})
	}
	return out
}

// many has n pairs by a rule.
func many(n int, of func(i uint64) pair) []pair {
	l := make([]pair, n)
	for i := range l {
		l[i] = of(uint64(i))
	}
	return l
}

func TestP12_1Example(t *testing.T) {
	q := New()
	if !q.Put(1, 9) || !q.Put(2, 5) || !q.Put(3, 5) {
		t.Error("P12.1: Put of a new one = false")
	}
	if id, at, ok := q.First(); id != 2 || at != 5 || !ok {
		t.Errorf("P12.1: First() = %d, %d, %v, want 2, 5, true", id, at, ok)
	}
	if l := q.Until(5); !slices.Equal(l, []uint64{2, 3}) {
		t.Errorf("P12.2: Until(5) = %d, want 2, 3", l)
	}
	if q.Len() != 3 {
		t.Errorf("P12.1: Len() = %d, want 3", q.Len())
	}
}

func TestP12_1EmptyQueue(t *testing.T) {
	q := New()
	if id, at, ok := q.First(); id != 0 || at != 0 || ok {
		t.Errorf("P12.1: First() of an empty one = %d, %d, %v", id, at, ok)
	}
	for _, n := range []uint64{0, 1, 1 << 63, math.MaxUint64} {
		if at, ok := q.At(n); at != 0 || ok {
			t.Errorf("P12.1: At(%d) of an empty one = %d, %v", n, at, ok)
		}
		if q.Drop(n) {
			t.Errorf("P12.1: Drop(%d) of an empty one = true", n)
		}
		if l := q.Until(n); len(l) != 0 {
			t.Errorf("P12.2: Until(%d) of an empty one = %d", n, l)
		}
	}
	if q.Len() != 0 {
		t.Errorf("P12.1: Len() of an empty one = %d", q.Len())
	}
}

func TestP12_1PutByWords(t *testing.T) {
	for name, l := range queues() {
		q, p := New(), &plain{}
		for i, x := range l {
			if got, want := q.Put(x.id, x.at), p.put(x.id, x.at); got != want {
				t.Errorf("P12.1: %s: Put(%d, %d) = %v, want %v", name, x.id, x.at, got, want)
			}
			if len(l) <= 31 {
				check(t, "P12.1: "+name+", "+strconv.Itoa(i+1)+" put", q, *p)
			}
		}
		check(t, "P12.1: "+name, q, *p)
	}
}

// TestP12_1PutOfOneThatIsThere gives each one of a queue another time: the first, those amid, and the last put.
func TestP12_1PutOfOneThatIsThere(t *testing.T) {
	times := []uint64{0, 1, 9, 10, 11, 19, 20, 21, 29, 30, 31, 39, 40, 41, 49, 50, 51, math.MaxUint64 - 1, math.MaxUint64}
	for id := uint64(1); id <= 5; id++ {
		for _, at := range times {
			q, p := made(t, pair{4, 40}, pair{1, 10}, pair{3, 30}, pair{2, 20}, pair{5, 50})
			what := "P12.1: " + strconv.FormatUint(id, 10) + " put to " + strconv.FormatUint(at, 10)
			for range 2 {
				if q.Put(id, at) {
					t.Errorf("%s: Put = true", what)
				}
				p.put(id, at)
				check(t, what, q, *p)
			}
			if got, ok := q.At(id); got != at || !ok || q.Len() != 5 {
				t.Errorf("%s: At = %d, %v, Len() = %d", what, got, ok, q.Len())
			}
		}
	}
}

func TestP12_1PutThereKnown(t *testing.T) {
	for name, x := range map[string]struct {
		put   pair
		first pair
		order []uint64
	}{
		"less":             {pair{1, 8}, pair{2, 5}, []uint64{2, 3, 1}},
		"the same":         {pair{1, 9}, pair{2, 5}, []uint64{2, 3, 1}},
		"greater":          {pair{1, 10}, pair{2, 5}, []uint64{2, 3, 1}},
		"less than all":    {pair{1, 4}, pair{1, 4}, []uint64{1, 2, 3}},
		"to others' time":  {pair{1, 5}, pair{1, 5}, []uint64{1, 2, 3}},
		"amid of one time": {pair{3, 4}, pair{3, 4}, []uint64{3, 2, 1}},
		"the first, less":  {pair{2, 0}, pair{2, 0}, []uint64{2, 3, 1}},
		"the first, same":  {pair{2, 5}, pair{2, 5}, []uint64{2, 3, 1}},
		"the first, later": {pair{2, 6}, pair{3, 5}, []uint64{3, 2, 1}},
		"the first, last":  {pair{2, 9}, pair{3, 5}, []uint64{3, 1, 2}},
		"the first, far":   {pair{2, math.MaxUint64}, pair{3, 5}, []uint64{3, 1, 2}},
	} {
		q, _ := made(t, pair{1, 9}, pair{2, 5}, pair{3, 5})
		if q.Put(x.put.id, x.put.at) {
			t.Errorf("P12.1: %s: Put = true", name)
		}
		if at, ok := q.At(x.put.id); at != x.put.at || !ok {
			t.Errorf("P12.1: %s: At = %d, %v", name, at, ok)
		}
		if id, at, ok := q.First(); id != x.first.id || at != x.first.at || !ok {
			t.Errorf("P12.1: %s: First() = %d, %d, %v, want %d", name, id, at, ok, x.first)
		}
		if l := q.Until(math.MaxUint64); !slices.Equal(l, x.order) || q.Len() != 3 {
			t.Errorf("P12.2: %s: Until = %d, Len() = %d, want %d", name, l, q.Len(), x.order)
		}
	}
}

func TestP12_1DropKnown(t *testing.T) {
	all := []pair{{4, 40}, {1, 10}, {3, 30}, {2, 20}, {5, 50}}
	for name, x := range map[string]struct {
		id   uint64
		left []uint64
	}{
		"the first":     {1, []uint64{2, 3, 4, 5}},
		"the second":    {2, []uint64{1, 3, 4, 5}},
		"amid":          {3, []uint64{1, 2, 4, 5}},
		"the first put": {4, []uint64{1, 2, 3, 5}},
		"the last put":  {5, []uint64{1, 2, 3, 4}},
	} {
		q, p := made(t, all...)
		p.drop(x.id)
		if !q.Drop(x.id) {
			t.Errorf("P12.1: %s: Drop(%d) = false", name, x.id)
		}
		check(t, "P12.1: "+name+" dropped", q, *p)
		if at, ok := q.At(x.id); at != 0 || ok {
			t.Errorf("P12.1: %s: At(%d) = %d, %v", name, x.id, at, ok)
		}
		if l := q.Until(math.MaxUint64); !slices.Equal(l, x.left) {
			t.Errorf("P12.2: %s: Until = %d, want %d", name, l, x.left)
		}
		for range 3 {
			if q.Drop(x.id) {
				t.Errorf("P12.1: %s: Drop(%d) again = true", name, x.id)
			}
			check(t, "P12.1: "+name+" dropped again", q, *p)
		}
		if !q.Put(x.id, 25) {
			t.Errorf("P12.1: %s: Put of the one that was dropped = false", name)
		}
		p.put(x.id, 25)
		check(t, "P12.1: "+name+" put again", q, *p)
	}
}

func TestP12_1DropOfOneThatIsNotThere(t *testing.T) {
	for name, l := range queues() {
		q, p := made(t, l...)
		for _, id := range []uint64{1000, 1 << 40, math.MaxUint64 - 7} {
			if p.find(id) < 0 && q.Drop(id) {
				t.Errorf("P12.1: %s: Drop(%d) = true", name, id)
			}
		}
		check(t, "P12.1: "+name+": nothing dropped", q, *p)
	}
}

func TestP12_1DropOfTheOnlyOne(t *testing.T) {
	for _, x := range []pair{{7, 9}, {0, 0}, {math.MaxUint64, math.MaxUint64}, {0, math.MaxUint64}} {
		q, _ := made(t, x)
		if !q.Drop(x.id) || q.Drop(x.id) {
			t.Errorf("P12.1: Drop(%d) of the only one", x.id)
		}
		check(t, "P12.1: the only one dropped", q, nil)
		if !q.Put(x.id, 3) {
			t.Errorf("P12.1: Put(%d) behind the drop of the only one = false", x.id)
		}
		check(t, "P12.1: the only one put again", q, plain{{x.id, 3}})
	}
}

// TestP12_1DropOfEachOne takes each one off each queue, wherever it stands in it.
func TestP12_1DropOfEachOne(t *testing.T) {
	for name, l := range queues() {
		_, all := made(t, l...)
		for _, x := range *all {
			q, p := made(t, l...)
			p.drop(x.id)
			if !q.Drop(x.id) || q.Drop(x.id) {
				t.Errorf("P12.1: %s: Drop(%d)", name, x.id)
			}
			checkEnds(t, "P12.1: "+name+", "+strconv.FormatUint(x.id, 10)+" dropped", q, *p)
			checkAt(t, "P12.1: "+name, q, *p, x.id)
			for _, y := range *p {
				checkAt(t, "P12.1: "+name, q, *p, y.id)
			}
		}
	}
}

func TestP12_1FirstOfOneTime(t *testing.T) {
	ids := []uint64{0, 1, 2, 1<<63 - 1, 1 << 63, math.MaxUint64 - 1, math.MaxUint64}
	r := rand.New(rand.NewSource(2))
	for _, time := range []uint64{0, 5, 1 << 63, math.MaxUint64} {
		for range 50 {
			r.Shuffle(len(ids), func(i, j int) { ids[i], ids[j] = ids[j], ids[i] })
			some := ids[:1+r.Intn(len(ids))]
			q := New()
			for _, id := range some {
				q.Put(id, time)
			}
			if id, at, ok := q.First(); id != slices.Min(some) || at != time || !ok {
				t.Errorf("P12.1: First() of %d at %d = %d, %d, %v", some, time, id, at, ok)
			}
		}
	}
}

func TestP12_2UntilKnown(t *testing.T) {
	q, _ := made(t, pair{4, 40}, pair{9, 20}, pair{1, 10}, pair{0, math.MaxUint64}, pair{3, 30}, pair{2, 20}, pair{5, 10})
	for at, want := range map[uint64][]uint64{
		0:                  nil,
		9:                  nil,
		10:                 {1, 5},
		11:                 {1, 5},
		19:                 {1, 5},
		20:                 {1, 5, 2, 9},
		25:                 {1, 5, 2, 9},
		29:                 {1, 5, 2, 9},
		30:                 {1, 5, 2, 9, 3},
		39:                 {1, 5, 2, 9, 3},
		40:                 {1, 5, 2, 9, 3, 4},
		1 << 63:            {1, 5, 2, 9, 3, 4},
		math.MaxUint64 - 1: {1, 5, 2, 9, 3, 4},
		math.MaxUint64:     {1, 5, 2, 9, 3, 4, 0},
	} {
		for range 2 {
			if l := q.Until(at); !slices.Equal(l, want) || q.Len() != 7 {
				t.Errorf("P12.2: Until(%d) = %d, want %d; Len() = %d", at, l, want, q.Len())
			}
		}
	}
}

func TestP12_2UntilOfTime0(t *testing.T) {
	q, _ := made(t, pair{3, 0}, pair{1, 1}, pair{math.MaxUint64, 0}, pair{0, 0})
	if l := q.Until(0); !slices.Equal(l, []uint64{0, 3, math.MaxUint64}) {
		t.Errorf("P12.2: Until(0) = %d", l)
	}
}

// TestP12_2AsTheyWouldBeFirst holds Until against the order in which First tells them when they are taken off.
func TestP12_2AsTheyWouldBeFirst(t *testing.T) {
	for name, l := range queues() {
		_, p := made(t, l...)
		for _, x := range append(slices.Clone(*p), pair{0, 0}, pair{0, 15}, pair{0, math.MaxUint64}) {
			q, _ := made(t, l...)
			all := q.Until(x.at)
			for _, want := range all {
				id, at, ok := q.First()
				if id != want || at > x.at || !ok || !q.Drop(id) {
					t.Errorf("P12.2: %s: Until(%d) = %d, First() = %d, %d", name, x.at, all, id, at)
				}
			}
			if _, at, ok := q.First(); ok && at <= x.at {
				t.Errorf("P12.2: %s: Until(%d) = %d has none at %d", name, x.at, all, at)
			}
		}
	}
}

// TestP12_1CallsInWhateverOrder makes many calls one behind the other, of few ids and times and of far ones.
func TestP12_1CallsInWhateverOrder(t *testing.T) {
	for seed := range int64(60) {
		r := rand.New(rand.NewSource(seed))
		ids, times := uint64(1+r.Intn(80)), uint64(1+r.Intn(40))
		far, drops := seed%4 == 0, 1+r.Intn(9)
		number := func(below uint64) uint64 {
			n := r.Uint64() % below
			if far {
				// Few numbers, but from both ends of all.
				return n * 0x9E3779B97F4A7C15
			}
			return n
		}
		q, p := made(t)
		for i := range 400 {
			id, at := number(ids), number(times)
			what := "seed " + strconv.FormatInt(seed, 10) + ", call " + strconv.Itoa(i)
			if r.Intn(10) < drops {
				if got, want := q.Drop(id), p.drop(id); got != want {
					t.Errorf("P12.1: %s: Drop(%d) = %v, want %v", what, id, got, want)
				}
			} else if got, want := q.Put(id, at), p.put(id, at); got != want {
				t.Errorf("P12.1: %s: Put(%d, %d) = %v, want %v", what, id, at, got, want)
			}
			checkAt(t, "P12.1: "+what, q, *p, id)
			checkAt(t, "P12.1: "+what, q, *p, number(ids))
			checkUntil(t, "P12.2: "+what, q, *p, number(times))
			checkEnds(t, "P12.1: "+what, q, *p)
		}
	}
}

// TestP12_1TheOrderOfPutsPlaysNoPart puts the same in several orders.
func TestP12_1TheOrderOfPutsPlaysNoPart(t *testing.T) {
	r := rand.New(rand.NewSource(3))
	for name, l := range queues() {
		_, all := made(t, l...)
		once := slices.Clone(*all)
		for range 6 {
			r.Shuffle(len(once), func(i, j int) { once[i], once[j] = once[j], once[i] })
			q, _ := made(t, once...)
			checkEnds(t, "P12.1: "+name+", shuffled", q, *all)
		}
	}
}

// TestP12_3TakenOffOneByOne holds what comes off against nothing but what P12.3 says.
func TestP12_3TakenOffOneByOne(t *testing.T) {
	for name, l := range queues() {
		q, p := made(t, l...)
		var last pair
		for i := range len(*p) {
			id, at, ok := q.First()
			if !ok || !q.Drop(id) || q.Len() != len(*p)-i-1 {
				t.Fatalf("P12.3: %s: %d of %d is %d, %d, %v", name, i, len(*p), id, at, ok)
			}
			if i > 0 && (at < last.at || at == last.at && id <= last.id) {
				t.Errorf("P12.3: %s: %d at %d behind %d", name, id, at, last)
			}
			last = pair{id, at}
		}
		check(t, "P12.3: "+name+": all taken off", q, nil)
	}
}

// TestP12_3TakenOffBetweenPuts puts further ones, and gives others another time, between the takings.
func TestP12_3TakenOffBetweenPuts(t *testing.T) {
	r := rand.New(rand.NewSource(4))
	q, p := made(t)
	for round := range 300 {
		for range r.Intn(6) {
			id, at := uint64(r.Intn(100)), uint64(r.Intn(30))
			q.Put(id, at)
			p.put(id, at)
		}
		for range min(r.Intn(6), len(*p)) {
			want := (*p)[0]
			if id, at, ok := q.First(); id != want.id || at != want.at || !ok || !q.Drop(id) {
				t.Fatalf("P12.3: round %d: %d, %d, %v, want %d", round, id, at, ok, want)
			}
			p.drop(want.id)
		}
		checkEnds(t, "P12.3: round "+strconv.Itoa(round), q, *p)
	}
}

// TestP12_3OfMany has as many as a yard or a shard may have, and more: it would not end soon, were each call to go
// through all.
func TestP12_3OfMany(t *testing.T) {
	const n = 200000
	q := New()
	for i := range uint64(n) {
		q.Put(i*7919%n, i%1000)
	}
	for i := range uint64(n) {
		q.Put(i, (i*31)%(n/4))
	}
	if l := q.Until(math.MaxUint64); len(l) != n || q.Len() != n {
		t.Fatalf("P12.2: Until has %d of %d", len(l), q.Len())
	}
	var last pair
	for i := range n {
		id, at, ok := q.First()
		if due := q.Until(at); !ok || len(due) == 0 || due[0] != id || !q.Drop(id) {
			t.Fatalf("P12.3: %d is %d, %d, %v; Until = %d", i, id, at, ok, due)
		}
		if at != id*31%(n/4) || i > 0 && !ahead(last, pair{id, at}) {
			t.Fatalf("P12.3: %d at %d behind %d", id, at, last)
		}
		last = pair{id, at}
	}
	if q.Len() != 0 {
		t.Errorf("P12.1: Len() = %d", q.Len())
	}
}

func TestR1NilQueue(t *testing.T) {
	var q *Queue
	for range 2 {
		for _, n := range []uint64{0, 1, 7, 1 << 63, math.MaxUint64} {
			if q.Put(n, n) {
				t.Errorf("P12.1: nil.Put(%d) = true", n)
			}
			if q.Drop(n) {
				t.Errorf("P12.1: nil.Drop(%d) = true", n)
			}
			if at, ok := q.At(n); at != 0 || ok {
				t.Errorf("P12.1: nil.At(%d) = %d, %v", n, at, ok)
			}
			if l := q.Until(n); len(l) != 0 {
				t.Errorf("P12.2: nil.Until(%d) = %d", n, l)
			}
		}
		if id, at, ok := q.First(); id != 0 || at != 0 || ok {
			t.Errorf("P12.1: nil.First() = %d, %d, %v", id, at, ok)
		}
		if q.Len() != 0 {
			t.Errorf("P12.1: nil.Len() = %d", q.Len())
		}
	}
}

// TestR1NotMadeByNew: one that nobody made by New is an empty one.
func TestR1NotMadeByNew(t *testing.T) {
	for name, l := range queues() {
		var q Queue
		var p plain
		check(t, "R1: "+name+": not made by New", &q, p)
		if q.Drop(7) {
			t.Errorf("R1: %s: Drop of one that isn't made by New = true", name)
		}
		for _, x := range l {
			if got, want := q.Put(x.id, x.at), p.put(x.id, x.at); got != want {
				t.Errorf("R1: %s: Put(%d, %d) = %v, want %v", name, x.id, x.at, got, want)
			}
		}
		check(t, "R1: "+name+": put to one not made by New", &q, p)
		for len(p) > 0 {
			id := p[len(p)/2].id
			if got, want := q.Drop(id), p.drop(id); got != want {
				t.Errorf("R1: %s: Drop(%d) = %v", name, id, got)
			}
			checkEnds(t, "R1: "+name+": not made by New", &q, p)
		}
	}
}

// TestR1CopyOfAQueue asks for no more than an answer: what becomes of a copy's other one the document leaves open.
func TestR1CopyOfAQueue(t *testing.T) {
	r := rand.New(rand.NewSource(5))
	for _, l := range queues() {
		q, _ := made(t, l...)
		var empty Queue
		for _, all := range [][]Queue{{*q, *q, *q}, {empty, empty, empty}} {
			for range 100 {
				c := &all[r.Intn(len(all))]
				if r.Intn(10) == 0 {
					*c = all[r.Intn(len(all))]
				}
				c.Put(uint64(r.Intn(50)), uint64(r.Intn(10)))
				c.Drop(uint64(r.Intn(50)))
				c.At(uint64(r.Intn(50)))
				c.Until(uint64(r.Intn(10)))
				if id, _, ok := c.First(); ok && r.Intn(2) == 0 {
					c.Drop(id)
				}
				c.Len()
			}
		}
	}
}

func TestR2FalseTellsNothingElse(t *testing.T) {
	q, _ := made(t, pair{7, 9}, pair{8, 3})
	if at, ok := q.At(9); at != 0 || ok {
		t.Errorf("R2: At(9) = %d, %v", at, ok)
	}
	q.Drop(7)
	if at, ok := q.At(7); at != 0 || ok {
		t.Errorf("R2: At of one that was dropped = %d, %v", at, ok)
	}
	q.Drop(8)
	if id, at, ok := q.First(); id != 0 || at != 0 || ok {
		t.Errorf("R2: First() behind the last drop = %d, %d, %v", id, at, ok)
	}
}

func TestR4WhatUntilTellsIsTheCallers(t *testing.T) {
	for name, l := range queues() {
		q, p := made(t, l...)
		one, other := q.Until(math.MaxUint64), q.Until(math.MaxUint64)
		want := p.until(math.MaxUint64)
		for i := range one {
			one[i] = 1000000 + uint64(i)
		}
		grown := append(one[:0], 5, 6, 7)
		if !slices.Equal(other, want) {
			t.Errorf("R4: %s: another answer is %d, behind %d", name, other, grown)
		}
		check(t, "R4: "+name+", an answer changed", q, *p)
		q.Put(3, 0)
		q.Put(1<<40, 5)
		for id := range uint64(20) {
			q.Drop(id)
		}
		if !slices.Equal(other, want) {
			t.Errorf("R4: %s: Put and Drop changed what was told to %d, want %d", name, other, want)
		}
	}
}

func TestR6NothingIsKept(t *testing.T) {
	first, p := made(t, pair{1, 9}, pair{2, 5})
	for name, l := range queues() {
		q, _ := made(t, l...)
		q.Drop(1)
		q.Until(math.MaxUint64)
		check(t, "R6: an empty one behind "+name, New(), nil)
		check(t, "R6: one behind "+name, first, *p)
	}
	one, other := New(), New()
	one.Put(3, 4)
	other.Put(3, 5)
	check(t, "R6: one of two", one, plain{{3, 4}})
	check(t, "R6: the other of two", other, plain{{3, 5}})
}

func TestWaysAnotherThingPanics(t *testing.T) {
	for _, x := range []any{nil, 7, "a", uint64(7), &item{}, []item{{}}} {
		func() {
			defer func() {
				if recover() == nil {
					t.Errorf("Ways: Push(%v) doesn't panic", x)
				}
			}()
			none().Push(x)
		}()
	}
}

func FuzzQueue(f *testing.F) {
	for _, l := range queues() {
		var b []byte
		for i, x := range l {
			b = binary.LittleEndian.AppendUint64(append(b, byte(i)), x.id)
			b = binary.LittleEndian.AppendUint64(b, x.at)
		}
		f.Add(b)
	}
	f.Fuzz(func(t *testing.T, b []byte) {
		q, p := New(), &plain{}
		for len(b) >= 17 {
			id, at := binary.LittleEndian.Uint64(b[1:]), binary.LittleEndian.Uint64(b[9:])
			if b[0]%4 == 0 {
				if got, want := q.Drop(id), p.drop(id); got != want {
					t.Fatalf("P12.1: Drop(%d) = %v", id, got)
				}
			} else if got, want := q.Put(id, at), p.put(id, at); got != want {
				t.Fatalf("P12.1: Put(%d, %d) = %v", id, at, got)
			}
			checkAt(t, "P12.1", q, *p, id)
			checkUntil(t, "P12.2", q, *p, at)
			checkEnds(t, "P12.1", q, *p)
			b = b[17:]
		}
	})
}
