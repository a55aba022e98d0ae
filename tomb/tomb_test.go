package tomb

import (
	"cmp"
	"encoding/binary"
	"math"
	"math/rand"
	"reflect"
	"slices"
	"strconv"
	"testing"

	"tallyroom/api"
)

const (
	maxYard = 65536
	end     = math.MaxUint64
)

// over is a trace with the time at which it was over.
type over struct{ trace, at uint64 }

// lesser is by the times, of one time by the traces.
func lesser(a, b over) int {
	return cmp.Or(cmp.Compare(a.at, b.at), cmp.Compare(a.trace, b.trace))
}

// plain is the yard by the document's words: who is remembered stands in a list that is gone through.
type plain struct {
	most int
	list []over
	came []uint64 // all that were ever put
}

// put tells who is forgotten, and whether one is.
func (p *plain) put(x over) (uint64, bool) {
	p.came = append(p.came, x.trace)
	p.list = slices.DeleteFunc(p.list, func(o over) bool { return o.trace == x.trace })
	p.list = append(p.list, x)
	if len(p.list) <= p.most {
		return 0, false
	}
	gone := slices.MinFunc(p.list, lesser)
	p.list = slices.DeleteFunc(p.list, func(o over) bool { return o == gone })
	return gone.trace, true
}

func (p *plain) has(trace uint64) bool {
	return slices.ContainsFunc(p.list, func(o over) bool { return o.trace == trace })
}

func made(t *testing.T, most int) *Yard {
	t.Helper()
	y, e := New(most)
	if e != api.OK || y == nil {
		t.Fatalf("P14.1: New(%d) = %v, %d", most, y, e)
	}
	return y
}

// strangers are traces that the tests put seldom.
var strangers = []uint64{0, 1, 2, 1 << 32, 1<<63 - 1, 1 << 63, 1<<63 + 1, end - 1, end}

// check asks for all that a yard tells.
func check(t *testing.T, what string, y *Yard, p *plain) {
	t.Helper()
	if y.Len() != len(p.list) || y.Len() > p.most {
		t.Errorf("%s: Len() = %d, want %d, and at most %d", what, y.Len(), len(p.list), p.most)
	}
	for _, l := range [][]uint64{p.came, strangers} {
		for _, trace := range l {
			if y.Has(trace) != p.has(trace) {
				t.Errorf("%s: Has(%d) = %v, want %v, of %d", what, trace, !p.has(trace), p.has(trace), p.list)
			}
		}
	}
}

// tell puts a trace into both, and holds what is told against one another.
func tell(t *testing.T, what string, y *Yard, p *plain, x over) {
	t.Helper()
	was := slices.Clone(p.list)
	want, wantGone := p.put(x)
	id, gone, e := y.Put(x.trace, x.at)
	if id != want || gone != wantGone || e != api.OK {
		t.Errorf("%s: Put(%d, %d) = %d, %v, %d, want %d, %v; at most %d, of %d", what, x.trace, x.at, id, gone, e, want, wantGone, p.most, was)
	}
}

// follow puts traces one by one, and checks behind each.
func follow(t *testing.T, what string, most int, l ...over) {
	t.Helper()
	y, p := made(t, most), &plain{most: most}
	check(t, what+": at first", y, p)
	for i, x := range l {
		tell(t, what, y, p, x)
		check(t, what+": behind "+strconv.Itoa(i), y, p)
	}
}

// greatest has those of a list that have the greatest times, and of one time are the greatest traces.
func greatest(l []over, most int) []over {
	l = slices.SortedFunc(slices.Values(l), lesser)
	return l[max(0, len(l)-most):]
}

// unlike has n traces that are all unlike, with times below a bound.
func unlike(r *rand.Rand, n int, times uint64) []over {
	l := make([]over, n)
	seen := map[uint64]bool{}
	for i := range l {
		trace := r.Uint64()
		for seen[trace] {
			trace = r.Uint64()
		}
		seen[trace] = true
		l[i] = over{trace, r.Uint64() % times}
	}
	return l
}

// noise has n puts of so many traces, at times below a bound.
func noise(r *rand.Rand, n int, traces, times uint64) []over {
	l := make([]over, n)
	for i := range l {
		l[i] = over{r.Uint64() % traces, r.Uint64() % times}
	}
	return l
}

func TestP14_1Example(t *testing.T) {
	y := made(t, 1)
	if id, gone, e := y.Put(5, 9); id != 0 || gone || e != api.OK {
		t.Errorf("P14.1: Put(5, 9) = %d, %v, %d", id, gone, e)
	}
	if id, gone, e := y.Put(6, 8); id != 6 || !gone || e != api.OK {
		t.Errorf("P14.1: Put(6, 8) = %d, %v, %d, want 6, true", id, gone, e)
	}
	if !y.Has(5) || y.Has(6) || y.Len() != 1 {
		t.Errorf("P14.1: Has(5) = %v, Has(6) = %v, Len() = %d", y.Has(5), y.Has(6), y.Len())
	}
}

func TestP14_1New(t *testing.T) {
	for most, want := range map[int]api.Errno{
		-1: api.ErrArg, 0: api.OK, 1: api.OK, 2: api.OK, 1000: api.OK, 65535: api.OK, 65536: api.OK, 65537: api.ErrArg, 65538: api.ErrArg,
		-2: api.ErrArg, -65536: api.ErrArg, math.MinInt: api.ErrArg, math.MinInt + 1: api.ErrArg, math.MaxInt: api.ErrArg,
		1 << 17: api.ErrArg, 1 << 32: api.ErrArg, 1<<32 + 1: api.ErrArg, -1 << 32: api.ErrArg, -1<<32 + 1: api.ErrArg,
	} {
		y, e := New(most)
		if e != want || (y != nil) != (want == api.OK) {
			t.Errorf("P14.1: New(%d) = %v, %d, want %d", most, y, e, want)
		}
		if y != nil {
			check(t, "P14.1: New", y, &plain{most: most})
		}
	}
}

// TestP14_1AsManyAsNewSaid fills yards to the brim: nobody is forgotten ahead of it, and one is with each that is more.
func TestP14_1AsManyAsNewSaid(t *testing.T) {
	for _, most := range []int{0, 1, 2, 3, 7, 8, 100, 1 << 15, 65535, 65536} {
		y := made(t, most)
		for i := range most {
			if id, gone, e := y.Put(uint64(i+1), 7); id != 0 || gone || e != api.OK || y.Len() != i+1 {
				t.Fatalf("P14.1: at most %d: the Put ahead of which there are %d: %d, %v, %d", most, i, id, gone, e)
			}
		}
		for i := range 5 {
			trace, want := uint64(most+i+1), uint64(i+1)
			if id, gone, e := y.Put(trace, 7); id != want || !gone || e != api.OK || y.Len() != most {
				t.Fatalf("P14.1: at most %d: Put(%d, 7) into a full one = %d, %v, %d, want %d; Len() = %d", most, trace, id, gone, e, want, y.Len())
			}
			if y.Has(want) || y.Has(trace) != (most > 0) {
				t.Fatalf("P14.1: at most %d: Has(%d) = %v, Has(%d) = %v", most, want, y.Has(want), trace, y.Has(trace))
			}
		}
	}
}

// TestP14_1PutAgain gives a trace another time: nobody is forgotten by it, full or not, and who is forgotten behind it
// tells which time the trace has.
func TestP14_1PutAgain(t *testing.T) {
	for _, x := range []struct {
		what       string
		trace, at  uint64
		next, then uint64 // who is forgotten by two that come later
	}{
		{"the middle one, the same time", 20, 20, 10, 20},
		{"the first one, a greater time", 10, 25, 20, 10},
		{"the first one, the greatest time", 10, 99, 20, 30},
		{"the first one, the same time", 10, 10, 10, 20},
		{"the first one, a lesser time", 10, 5, 10, 20},
		{"the middle one, a greater time", 20, 40, 10, 30},
		{"the middle one, a lesser time", 20, 5, 20, 10},
		{"the middle one, the time of the first one", 20, 10, 10, 20},
		{"the last one, a greater time", 30, 40, 10, 20},
		{"the last one, the same time", 30, 30, 10, 20},
		{"the last one, a lesser time", 30, 15, 10, 30},
		{"the last one, the least time", 30, 0, 30, 10},
	} {
		for _, most := range []int{3, 4, 5} {
			y, p := made(t, most), &plain{most: most}
			l := []over{{30, 30}, {10, 10}, {20, 20}, {x.trace, x.at}}
			for i := 3; i < most; i++ {
				l = append(l, over{uint64(1000 + i), 1000})
			}
			for _, o := range l {
				tell(t, "P14.1: "+x.what, y, p, o)
				check(t, "P14.1: "+x.what, y, p)
			}
			if y.Len() != most {
				t.Errorf("P14.1: %s: Len() = %d, want %d", x.what, y.Len(), most)
			}
			for i, want := range []uint64{x.next, x.then} {
				if id, gone, e := y.Put(uint64(2000+i), 2000); id != want || !gone || e != api.OK {
					t.Errorf("P14.1: %s, at most %d: a Put forgets %d, %v, %d, want %d", x.what, most, id, gone, e, want)
				}
			}
		}
	}
}

// TestP14_1PutWhoWasForgotten: it is as one that never came.
func TestP14_1PutWhoWasForgotten(t *testing.T) {
	y := made(t, 2)
	for i, x := range []struct {
		over
		want uint64
		gone bool
	}{
		{over{1, 10}, 0, false},
		{over{2, 20}, 0, false},
		{over{3, 15}, 1, true},
		{over{1, 12}, 1, true},
		{over{1, 15}, 1, true},
		{over{1, 16}, 3, true},
		{over{3, 16}, 1, true},
		{over{1, 20}, 3, true},
		{over{3, 20}, 1, true},
		{over{1, end}, 2, true},
		{over{2, 0}, 2, true},
	} {
		if id, gone, e := y.Put(x.trace, x.at); id != x.want || gone != x.gone || e != api.OK {
			t.Errorf("P14.1: %d: Put(%d, %d) = %d, %v, %d, want %d, %v", i, x.trace, x.at, id, gone, e, x.want, x.gone)
		}
		if x.gone && y.Has(x.want) {
			t.Errorf("P14.1: %d: Has(%d), who was forgotten", i, x.want)
		}
	}
}

func TestP14_1WhomAFullYardForgets(t *testing.T) {
	for _, x := range []struct {
		there []over
		put   over
		want  uint64
	}{
		{[]over{{1, 10}, {2, 20}, {3, 30}}, over{4, 40}, 1},
		{[]over{{3, 10}, {2, 20}, {1, 30}}, over{4, 40}, 3},
		{[]over{{1, 30}, {2, 10}, {3, 20}}, over{4, 40}, 2},
		{[]over{{1, 10}, {2, 20}, {3, 30}}, over{4, 11}, 1},
		{[]over{{1, 10}, {2, 20}, {3, 30}}, over{4, 9}, 4},
		{[]over{{1, 10}, {2, 20}, {3, 30}}, over{0, 9}, 0},
		{[]over{{1, 10}, {2, 20}, {3, 30}}, over{4, 0}, 4},
		{[]over{{1, 10}, {2, 20}, {3, 30}}, over{4, 10}, 1},
		{[]over{{1, 10}, {2, 20}, {3, 30}}, over{0, 10}, 0},
		{[]over{{5, 10}, {4, 10}, {6, 10}}, over{7, 10}, 4},
		{[]over{{5, 10}, {4, 10}, {6, 10}}, over{3, 10}, 3},
		{[]over{{5, 10}, {4, 10}, {6, 10}}, over{3, 11}, 4},
		{[]over{{5, 10}, {4, 10}, {6, 10}}, over{9, 9}, 9},
		{[]over{{5, 11}, {4, 11}, {6, 10}}, over{3, 11}, 6},
		{[]over{{9, 5}, {8, 5}, {1, 6}}, over{2, 6}, 8},
		{[]over{{9, 0}, {1, 1}, {2, 1}}, over{0, 1}, 9},
		{[]over{{0, 0}, {1, 0}, {end, 0}}, over{2, 0}, 0},
		{[]over{{end, 0}, {1, 1}, {2, 1}}, over{0, end}, end},
		{[]over{{0, end}, {1, end}, {end, end}}, over{2, end}, 0},
		{[]over{{1, end}, {2, end}, {end, end}}, over{0, end}, 0},
		{[]over{{1, end}, {2, end}, {3, end}}, over{end, end - 1}, end},
		{[]over{{1 << 63, 1}, {2, 1}, {3, 1}}, over{4, 1 << 63}, 2},
		{[]over{{1 << 63, 5}, {1<<63 + 1, 5}, {end, 5}}, over{1<<63 - 1, 5}, 1<<63 - 1},
		{[]over{{1, 1 << 63}, {2, 1<<63 + 1}, {3, end}}, over{4, 1<<63 - 1}, 4},
		{[]over{{1, 1 << 32}, {2, 1<<32 + 1}, {3, 1 << 33}}, over{4, 1}, 4},
	} {
		for _, order := range [][]int{{0, 1, 2}, {0, 2, 1}, {1, 0, 2}, {1, 2, 0}, {2, 0, 1}, {2, 1, 0}} {
			y := made(t, 3)
			for _, i := range order {
				y.Put(x.there[i].trace, x.there[i].at)
			}
			if id, gone, e := y.Put(x.put.trace, x.put.at); id != x.want || !gone || e != api.OK {
				t.Errorf("P14.1: %d, then Put(%d, %d) = %d, %v, %d, want %d", x.there, x.put.trace, x.put.at, id, gone, e, x.want)
			}
			for _, o := range append(slices.Clone(x.there), x.put) {
				if y.Has(o.trace) != (o.trace != x.want) {
					t.Errorf("P14.1: %d, then Put(%d, %d): Has(%d) = %v", x.there, x.put.trace, x.put.at, o.trace, y.Has(o.trace))
				}
			}
			if y.Len() != 3 {
				t.Errorf("P14.1: %d, then Put(%d, %d): Len() = %d", x.there, x.put.trace, x.put.at, y.Len())
			}
		}
	}
}

// TestP14_1RoomForgetsNobody: Put tells 0 and false as long as there is room, whatever the times.
func TestP14_1RoomForgetsNobody(t *testing.T) {
	r := rand.New(rand.NewSource(1))
	for _, most := range []int{1, 2, 5, 64, 200} {
		for _, times := range []uint64{1, 3, 1000, end} {
			l := unlike(r, most, times)
			y := made(t, most)
			for i, x := range l {
				for range 1 + r.Intn(3) {
					if id, gone, e := y.Put(x.trace, r.Uint64()%times); id != 0 || gone || e != api.OK || y.Len() != i+1 {
						t.Errorf("P14.1: at most %d, %d are there: Put = %d, %v, %d; Len() = %d", most, i, id, gone, e, y.Len())
					}
				}
				for j, x := range l {
					if y.Has(x.trace) != (j <= i) {
						t.Errorf("P14.1: at most %d, %d came: Has of number %d = %v", most, i+1, j, y.Has(x.trace))
					}
				}
			}
		}
	}
}

func TestP14_1YardOfNone(t *testing.T) {
	y := made(t, 0)
	for range 3 {
		for _, trace := range strangers {
			for _, at := range strangers {
				if id, gone, e := y.Put(trace, at); id != trace || !gone || e != api.OK {
					t.Errorf("P14.1: at most 0: Put(%d, %d) = %d, %v, %d", trace, at, id, gone, e)
				}
				if y.Has(trace) || y.Len() != 0 {
					t.Errorf("P14.1: at most 0: Has(%d) = %v, Len() = %d", trace, y.Has(trace), y.Len())
				}
			}
		}
	}
	follow(t, "P14.1: at most 0", 0, noise(rand.New(rand.NewSource(2)), 200, 10, 10)...)
}

func TestP14_1Has(t *testing.T) {
	y := made(t, 3)
	for _, trace := range strangers {
		if y.Has(trace) {
			t.Errorf("P14.1: nobody came: Has(%d)", trace)
		}
	}
	for _, x := range []over{{10, 3}, {11, 1}, {12, 2}, {13, 4}, {14, 0}, {12, 1}, {15, 5}} {
		y.Put(x.trace, x.at)
	}
	for trace, want := range map[uint64]bool{
		10: true, 11: false, 12: false, 13: true, 14: false, 15: true, // 11, 14 and 12 were forgotten
		0: false, 1: false, 3: false, 4: false, 5: false, 9: false, 16: false, 10 + 1<<32: false, 10 + 1<<63: false, end: false,
	} {
		for range 2 {
			if y.Has(trace) != want {
				t.Errorf("P14.1: Has(%d) = %v, want %v", trace, !want, want)
			}
		}
	}
	if y.Len() != 3 {
		t.Errorf("P14.1: Len() = %d behind Has, want 3", y.Len())
	}
}

// TestP14_1Ends puts traces and times at the ends of the numbers in all orders of four.
func TestP14_1Ends(t *testing.T) {
	var kinds []over
	for _, trace := range []uint64{0, 1, end} {
		for _, at := range []uint64{0, 1 << 63, end} {
			kinds = append(kinds, over{trace, at})
		}
	}
	for most := range 4 {
		allRuns(t, "P14.1: at the ends", most, kinds, 4)
	}
}

func TestP14_1AllShortRuns(t *testing.T) {
	kinds := []over{{1, 1}, {1, 2}, {2, 1}, {2, 2}, {3, 1}, {3, 2}}
	for most := range 4 {
		for length := 1; length <= 5; length++ {
			allRuns(t, "P14.1", most, kinds, length)
		}
	}
}

// allRuns does all runs of so many puts.
func allRuns(t *testing.T, what string, most int, kinds []over, length int) {
	t.Helper()
	for n := range int(math.Pow(float64(len(kinds)), float64(length))) {
		y, p := made(t, most), &plain{most: most}
		for range length {
			tell(t, what, y, p, kinds[n%len(kinds)])
			n /= len(kinds)
		}
		check(t, what, y, p)
	}
}

func TestP14_1LongRuns(t *testing.T) {
	sizes := []int{0, 1, 2, 3, 4, 7, 8, 15, 30, 100}
	for seed := range int64(60) {
		r := rand.New(rand.NewSource(seed))
		most := sizes[int(seed)%len(sizes)]
		traces, times := uint64(1+r.Intn(3*most+5)), uint64(1+r.Intn(50))
		switch seed / 10 % 3 {
		case 1:
			times = end
		case 2:
			traces = end
		}
		follow(t, "P14.1: seed "+strconv.FormatInt(seed, 10), most, noise(r, 250, traces, times)...)
	}
}

// TestP14_1RisingAndFalling: times that rise let each go in its turn, times that fall let each that comes go at once.
func TestP14_1RisingAndFalling(t *testing.T) {
	for _, most := range []int{1, 2, 5, 50} {
		rise, fall := made(t, most), made(t, most)
		for i := range uint64(300) {
			full := i >= uint64(most)
			if id, gone, _ := rise.Put(i, i); gone != full || full && id != i-uint64(most) {
				t.Errorf("P14.1: at most %d, times rise: Put(%d) forgets %d, %v", most, i, id, gone)
			}
			if id, gone, _ := fall.Put(i, 1000-i); gone != full || full && id != i {
				t.Errorf("P14.1: at most %d, times fall: Put(%d) forgets %d, %v", most, i, id, gone)
			}
		}
	}
}

// TestP14_1GreatestYard goes far past a yard of 65536.
func TestP14_1GreatestYard(t *testing.T) {
	r := rand.New(rand.NewSource(3))
	l := unlike(r, maxYard+20000, 50000)
	y := made(t, maxYard)
	forgot := map[uint64]int{}
	for i, x := range l {
		id, gone, e := y.Put(x.trace, x.at)
		if gone != (i >= maxYard) || e != api.OK || !gone && id != 0 || y.Len() != min(i+1, maxYard) {
			t.Fatalf("P14.1: Put number %d = %d, %v, %d; Len() = %d", i, id, gone, e, y.Len())
		}
		if gone {
			forgot[id]++
		}
	}
	stay := map[uint64]int{}
	for _, x := range greatest(l, maxYard) {
		stay[x.trace]++
	}
	for _, x := range l {
		if y.Has(x.trace) != (stay[x.trace] == 1) || forgot[x.trace]+stay[x.trace] != 1 {
			t.Fatalf("P14.1: Has(%d) = %v; it was forgotten %d times", x.trace, y.Has(x.trace), forgot[x.trace])
		}
	}
}

// TestP14_1AskingChangesNothing asks one of two yards for all between the puts.
func TestP14_1AskingChangesNothing(t *testing.T) {
	r := rand.New(rand.NewSource(4))
	for _, most := range []int{0, 1, 4, 20} {
		asked, other := made(t, most), made(t, most)
		p, q := &plain{most: most}, &plain{most: most}
		for _, x := range noise(r, 200, 40, 20) {
			tell(t, "P14.1: asked", asked, p, x)
			check(t, "P14.1: asked", asked, p)
			tell(t, "P14.1: not asked", other, q, x)
		}
		check(t, "P14.1: asked at the end alone", other, q)
	}
}

// TestP14_2NeverMore counts who is there by Has, too.
func TestP14_2NeverMore(t *testing.T) {
	r := rand.New(rand.NewSource(5))
	for _, most := range []int{0, 1, 2, 3, 10, 63} {
		y := made(t, most)
		for i, x := range noise(r, 2000, 100, 30) {
			y.Put(x.trace, x.at)
			there := 0
			for trace := range uint64(100) {
				if y.Has(trace) {
					there++
				}
			}
			if there > most || y.Len() != there {
				t.Fatalf("P14.2: put %d: %d are there, Len() = %d, want at most %d", i, there, y.Len(), most)
			}
		}
	}
}

// TestP14_2AllOrders puts unlike traces in all orders: the same ones stay.
func TestP14_2AllOrders(t *testing.T) {
	for _, l := range [][]over{
		{{1, 1}, {2, 2}, {3, 3}, {4, 4}, {5, 5}, {6, 6}},
		{{6, 1}, {5, 2}, {4, 3}, {3, 4}, {2, 5}, {1, 6}},
		{{1, 7}, {2, 7}, {3, 7}, {4, 7}, {5, 7}, {6, 7}},
		{{1, 9}, {6, 7}, {3, 7}, {4, 8}, {5, 7}, {2, 8}},
		{{0, end}, {end, 0}, {1 << 63, 1 << 63}, {1, end}, {2, 0}, {3, 1 << 63}},
	} {
		for most := range 8 {
			stay := greatest(l, most)
			orders(slices.Clone(l), 0, func(order []over) {
				y := made(t, most)
				for _, x := range order {
					y.Put(x.trace, x.at)
				}
				for _, x := range l {
					if y.Has(x.trace) != slices.Contains(stay, x) {
						t.Errorf("P14.2: at most %d, in the order %d: Has(%d) = %v", most, order, x.trace, y.Has(x.trace))
					}
				}
				if y.Len() != len(stay) {
					t.Errorf("P14.2: at most %d, in the order %d: Len() = %d", most, order, y.Len())
				}
			})
		}
	}
}

// orders hands on all orders of a list in which those ahead of at stand still.
func orders(l []over, at int, each func([]over)) {
	if at == len(l) {
		each(l)
		return
	}
	for i := at; i < len(l); i++ {
		l[at], l[i] = l[i], l[at]
		orders(l, at+1, each)
		l[at], l[i] = l[i], l[at]
	}
}

// TestP14_2WhateverOrder puts many unlike traces in some orders, and each is forgotten once or stays.
func TestP14_2WhateverOrder(t *testing.T) {
	for seed := range int64(40) {
		r := rand.New(rand.NewSource(seed))
		most := r.Intn(150)
		times := []uint64{1, 5, 100, end}[seed%4]
		l := unlike(r, 300, times)
		stay := greatest(l, most)
		for range 6 {
			y := made(t, most)
			forgot := map[uint64]int{}
			for _, x := range l {
				if id, gone, _ := y.Put(x.trace, x.at); gone {
					forgot[id]++
				}
			}
			for _, x := range l {
				want := slices.Contains(stay, x)
				if y.Has(x.trace) != want || (forgot[x.trace] == 1) == want || forgot[x.trace] > 1 {
					t.Fatalf("P14.2: seed %d, at most %d: Has(%d) = %v; it was forgotten %d times", seed, most, x.trace, y.Has(x.trace), forgot[x.trace])
				}
			}
			r.Shuffle(len(l), func(i, j int) { l[i], l[j] = l[j], l[i] })
		}
	}
}

// TestP14_2WhoStaysIsGreater: with puts of like traces, too, nobody is forgotten who has a greater time than one who stays.
func TestP14_2WhoStaysIsGreater(t *testing.T) {
	for seed := range int64(20) {
		r := rand.New(rand.NewSource(seed))
		most, traces := 1+r.Intn(20), 60
		y := made(t, most)
		last := map[uint64]uint64{}
		for _, x := range noise(r, 400, uint64(traces), uint64(1+r.Intn(40))) {
			last[x.trace] = x.at
			id, gone, _ := y.Put(x.trace, x.at)
			for trace, at := range last {
				if gone && y.Has(trace) && lesser(over{trace, at}, over{id, last[id]}) <= 0 {
					t.Fatalf("P14.2: seed %d: %d at %d is forgotten, %d at %d stays", seed, id, last[id], trace, at)
				}
			}
		}
	}
}

// TestP14_2TheGreatestStay puts a few with great times among many, who come again and again with lesser times.
func TestP14_2TheGreatestStay(t *testing.T) {
	for seed := range int64(30) {
		r := rand.New(rand.NewSource(seed))
		most := 1 + r.Intn(30)
		y := made(t, most)
		var great []uint64
		for i, x := range noise(r, 1000, 100, 1000) {
			if i%50 == 0 && len(great) < most {
				trace := uint64(1000 + len(great))
				great = append(great, trace)
				y.Put(trace, 1000+r.Uint64()%2*(end-1000))
			}
			y.Put(x.trace, x.at)
			for _, trace := range great {
				if !y.Has(trace) {
					t.Fatalf("P14.2: seed %d, at most %d: %d of the greatest times is forgotten", seed, most, trace)
				}
			}
		}
	}
}

func TestR1NilYard(t *testing.T) {
	var y *Yard
	for range 3 {
		for _, trace := range strangers {
			for _, at := range strangers {
				if id, gone, e := y.Put(trace, at); id != 0 || gone || e != api.ErrNil {
					t.Errorf("P14.1: nil.Put(%d, %d) = %d, %v, %d", trace, at, id, gone, e)
				}
			}
			if y.Has(trace) {
				t.Errorf("P14.1: nil.Has(%d) = true", trace)
			}
		}
		if y.Len() != 0 {
			t.Errorf("P14.1: nil.Len() = %d", y.Len())
		}
	}
}

func TestR1NilThatNewTold(t *testing.T) {
	for _, most := range []int{math.MinInt, -1, 65537, math.MaxInt} {
		y, _ := New(most)
		id, gone, e := y.Put(5, 9)
		if id != 0 || gone || e != api.ErrNil || y.Has(5) || y.Len() != 0 {
			t.Errorf("R1: what New told of %d is no nil yard: Put(5, 9) = %d, %v, %d", most, id, gone, e)
		}
	}
}

// TestR1NotMadeByNew: one that nobody made by New is a yard of 0.
func TestR1NotMadeByNew(t *testing.T) {
	var y Yard
	p := &plain{}
	if y.Has(0) || y.Len() != 0 {
		t.Errorf("R1: not made by New: Has(0) = %v, Len() = %d", y.Has(0), y.Len())
	}
	for _, x := range noise(rand.New(rand.NewSource(6)), 100, 5, end) {
		tell(t, "R1: not made by New", &y, p, x)
		check(t, "R1: not made by New", &y, p)
	}
	for _, z := range []*Yard{{}, new(Yard)} {
		z.Put(0, 0)
		check(t, "R1: not made by New", z, p)
	}
}

// TestR1CopyOfAYard asks for no more than answers, and that no yard has more than it may: what a copy has in common with
// its other one the document leaves open.
func TestR1CopyOfAYard(t *testing.T) {
	r := rand.New(rand.NewSource(7))
	const most = 8
	y := made(t, most)
	y.Put(1, 1)
	all := []Yard{*y, *y, *y, {}, {}}
	all = append(all, all[3])
	for range 3000 {
		y := &all[r.Intn(len(all))]
		if _, _, e := y.Put(r.Uint64()%30, r.Uint64()%10); e != api.OK {
			t.Errorf("R1: a copy's Put = %d", e)
		}
		y.Has(r.Uint64() % 30)
		for i := range all {
			if all[i].Len() > most {
				t.Errorf("R1: a copy's Len() = %d", all[i].Len())
			}
		}
	}
}

func TestR2ErrorTellsNoYard(t *testing.T) {
	for _, most := range []int{-1, -65536, 65537, math.MinInt, math.MaxInt} {
		if y, e := New(most); y != nil || e != api.ErrArg {
			t.Errorf("R2: New(%d) = %v, %d", most, y, e)
		}
	}
}

// TestR2NobodyForgottenIsZero: beside a false stands a 0, whoever is put.
func TestR2NobodyForgottenIsZero(t *testing.T) {
	y := made(t, 10)
	for i := range uint64(100) {
		if id, gone, e := y.Put(1+i%10, end-i); id != 0 || gone || e != api.OK {
			t.Errorf("R2: Put = %d, %v, %d", id, gone, e)
		}
	}
}

func TestR6NothingIsKept(t *testing.T) {
	first, p := made(t, 3), &plain{most: 3}
	for _, x := range []over{{1, 5}, {2, 6}, {3, 7}, {4, 6}} {
		tell(t, "R6", first, p, x)
	}
	for most := range 10 {
		y := made(t, most)
		for i := range uint64(20) {
			y.Put(i, end-i)
		}
		check(t, "R6: a new one behind another", made(t, most), &plain{most: most})
		check(t, "R6: one behind another", first, p)
	}
	one, a := made(t, 2), &plain{most: 2}
	other, b := made(t, 3), &plain{most: 3}
	r := rand.New(rand.NewSource(8))
	for range 100 {
		tell(t, "R6: one of two", one, a, over{r.Uint64() % 6, r.Uint64() % 9})
		tell(t, "R6: the other of two", other, b, over{r.Uint64() % 6, r.Uint64() % 9})
		check(t, "R6: one of two", one, a)
		check(t, "R6: the other of two", other, b)
	}
}

// TestWaysAWrapper: the queue's own calls aren't the yard's, so that nobody can put or drop past it.
func TestWaysAWrapper(t *testing.T) {
	var names []string
	y := reflect.TypeFor[*Yard]()
	for i := range y.NumMethod() {
		names = append(names, y.Method(i).Name)
	}
	if !slices.Equal(names, []string{"Has", "Len", "Put"}) {
		t.Errorf("Ways: a yard has %q", names)
	}
	for i := range y.Elem().NumField() {
		if y.Elem().Field(i).IsExported() {
			t.Errorf("Ways: a yard shows its %s", y.Elem().Field(i).Name)
		}
	}
}

func FuzzYard(f *testing.F) {
	asBytes := func(l []over) []byte {
		var b []byte
		for _, x := range l {
			b = binary.LittleEndian.AppendUint64(append(b, byte(x.trace)), x.at)
		}
		return b
	}
	r := rand.New(rand.NewSource(9))
	f.Add(1, asBytes([]over{{5, 9}, {6, 8}}))
	f.Add(0, asBytes([]over{{4, 7}}))
	f.Add(-1, asBytes(nil))
	f.Add(65537, asBytes(nil))
	f.Add(65536, asBytes(noise(r, 50, 30, 20)))
	f.Add(4, asBytes(noise(r, 50, 10, 5)))
	f.Add(7, asBytes(noise(r, 50, 256, end)))
	f.Fuzz(func(t *testing.T, most int, b []byte) {
		y, e := New(most)
		right := most >= 0 && most <= maxYard
		if right != (e == api.OK) || right != (y != nil) {
			t.Fatalf("P14.1: New(%d) = %v, %d", most, y, e)
		}
		p := &plain{most: most}
		for ; right && len(b) >= 9; b = b[9:] {
			tell(t, "P14.1", y, p, over{uint64(b[0]), binary.LittleEndian.Uint64(b[1:])})
			check(t, "P14", y, p)
		}
	})
}
