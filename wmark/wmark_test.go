package wmark

import (
	"encoding/binary"
	"math"
	"math/big"
	"math/rand"
	"slices"
	"strconv"
	"testing"

	"tallyroom/api"
)

const most = 1 << 62

// step is what a clock is told: that a source says an end, or a tick.
type step struct {
	source int
	end    uint64
}

// isTick stands for the source of a step that is a tick.
const isTick = -1

var tick = step{source: isTick}

// plain is the clock by the document's words: all that was said is kept, and gone through anew for each answer, in
// numbers that have no end.
type plain struct {
	sources    int
	late, idle uint64
	steps      []step
	marks      []*big.Int // behind each step the least mark of those that weren't idle then, if there was one
}

func asBig(n uint64) *big.Int { return new(big.Int).SetUint64(n) }

func (p *plain) do(s step) {
	p.steps = append(p.steps, s)
	var least *big.Int
	for i := range p.sources {
		if own := p.own(i); !p.isIdle(i) && (least == nil || own.Cmp(least) < 0) {
			least = own
		}
	}
	if least != nil {
		p.marks = append(p.marks, least)
	}
}

// own is a source's mark.
func (p *plain) own(source int) *big.Int {
	greatest := uint64(0)
	for _, s := range p.steps {
		if s.source == source && s.end > greatest {
			greatest = s.end
		}
	}
	own := asBig(greatest)
	own.Sub(own, asBig(p.late))
	if own.Sign() < 0 {
		return new(big.Int)
	}
	return own
}

func (p *plain) isIdle(source int) bool {
	if p.idle == 0 || source < 0 || source >= p.sources {
		return false
	}
	gone := new(big.Int)
	for _, s := range p.steps {
		if s.source == isTick {
			gone.Add(gone, asBig(1))
		} else if s.source == source {
			gone.SetInt64(0)
		}
	}
	return gone.Cmp(asBig(p.idle)) >= 0
}

func (p *plain) now() uint64 {
	n := uint64(0)
	for _, s := range p.steps {
		if s.source == isTick {
			n++
		}
	}
	return n
}

func (p *plain) mark() uint64 {
	mark := new(big.Int)
	for _, m := range p.marks {
		if m.Cmp(mark) > 0 {
			mark = m
		}
	}
	return mark.Uint64()
}

// made is a clock, and the same by the document's words.
func made(t *testing.T, sources int, late, idle uint64) (*Clock, *plain) {
	t.Helper()
	c, e := New(sources, late, idle)
	if e != api.OK || c == nil {
		t.Fatalf("P13.1: New(%d, %d, %d) = %v, %d", sources, late, idle, c, e)
	}
	return c, &plain{sources: sources, late: late, idle: idle}
}

// tell does a step.
func tell(t *testing.T, c *Clock, s step) {
	t.Helper()
	if s.source == isTick {
		if e := c.Tick(); e != api.OK {
			t.Fatalf("P13.1: Tick() = %d", e)
		}
		return
	}
	if e := c.See(s.source, s.end); e != api.OK {
		t.Fatalf("P13.1: See(%d, %d) = %d", s.source, s.end, e)
	}
}

// both does steps to a clock, and to the same by the document's words.
func both(t *testing.T, c *Clock, p *plain, steps ...step) {
	t.Helper()
	for _, s := range steps {
		tell(t, c, s)
		p.do(s)
	}
}

// noSources has numbers that are none of a clock with so many sources.
func noSources(sources int) []int {
	return []int{-1, -2, -16, math.MinInt, math.MinInt + 1, sources, sources + 1, sources + 16, 1 << 32, 1<<32 + 1, math.MaxInt}
}

// check asks for all that a clock tells.
func check(t *testing.T, what string, c *Clock, p *plain) {
	t.Helper()
	mark := p.mark()
	if got := c.Mark(); got != mark {
		t.Errorf("%s: Mark() = %d, want %d; behind %d", what, got, mark, p.steps)
	}
	if got := c.Now(); got != p.now() {
		t.Errorf("%s: Now() = %d, want %d", what, got, p.now())
	}
	for i := range p.sources {
		if got, want := c.Idle(i), p.isIdle(i); got != want {
			t.Errorf("%s: Idle(%d) = %v, want %v; behind %d", what, i, got, want, p.steps)
		}
	}
	for _, i := range noSources(p.sources) {
		if c.Idle(i) {
			t.Errorf("%s: Idle(%d) of none = true", what, i)
		}
	}
	for _, end := range []uint64{0, mark - 1, mark, mark + 1, most, 1 << 63, math.MaxUint64} {
		if got, want := c.Late(end), asBig(end).Cmp(asBig(mark)) < 0; got != want {
			t.Errorf("%s: Late(%d) = %v, want %v", what, end, got, want)
		}
	}
	if got := c.Mark(); got != mark {
		t.Errorf("%s: Mark() = %d when all was asked, want %d", what, got, mark)
	}
}

// follow does steps one by one, and checks behind each.
func follow(t *testing.T, what string, sources int, late, idle uint64, steps ...step) {
	t.Helper()
	c, p := made(t, sources, late, idle)
	check(t, what+": at first", c, p)
	for i, s := range steps {
		both(t, c, p, s)
		check(t, what+": behind step "+strconv.Itoa(i), c, p)
	}
}

// seen has what is said, source by source in turn, and is to be followed by ticks.
func seen(sources int, ends ...uint64) []step {
	var l []step
	for i, end := range ends {
		l = append(l, step{i % sources, end})
	}
	return l
}

func ticks(n int) []step { return slices.Repeat([]step{tick}, n) }

// noise has n steps by chance, of ends below a bound.
func noise(r *rand.Rand, sources, n, ticksOfTen int, ends uint64) []step {
	l := make([]step, n)
	for i := range l {
		l[i] = step{r.Intn(sources), r.Uint64() % ends}
		if r.Intn(10) < ticksOfTen {
			l[i] = tick
		}
	}
	return l
}

// rising has n steps by chance whose ends rise, but for some that are less.
func rising(r *rand.Rand, sources, n, ticksOfTen int) []step {
	l := noise(r, sources, n, ticksOfTen, 20)
	for i := range l {
		if l[i].source != isTick {
			l[i].end += 5 * uint64(i)
		}
	}
	return l
}

func TestP13_1Example(t *testing.T) {
	c, _ := made(t, 2, 2, 0)
	if e := c.See(0, 10); e != api.OK || c.Mark() != 0 {
		t.Errorf("P13.1: See(0, 10) = %d, Mark() = %d, want 0", e, c.Mark())
	}
	if e := c.See(1, 7); e != api.OK || c.Mark() != 5 {
		t.Errorf("P13.1: See(1, 7) = %d, Mark() = %d, want 5", e, c.Mark())
	}
}

func TestP13_1New(t *testing.T) {
	times := []uint64{0, 1, 2, 1 << 32, 1<<62 - 1, 1 << 62, 1<<62 + 1, 1<<63 - 1, 1 << 63, 1<<63 + 1, math.MaxUint64 - 1, math.MaxUint64}
	for _, sources := range []int{math.MinInt, -1 << 32, -17, -16, -2, -1, 0, 1, 2, 3, 8, 15, 16, 17, 18, 32, 1 << 16, 1 << 32, 1<<32 + 1, math.MaxInt} {
		for _, late := range times {
			for _, idle := range times {
				right := sources > 0 && sources < 17 && late <= most && idle <= most
				c, e := New(sources, late, idle)
				if right != (e == api.OK) || right != (c != nil) || !right && e != api.ErrArg {
					t.Errorf("P13.1: New(%d, %d, %d) = %v, %d", sources, late, idle, c, e)
				}
				if right {
					check(t, "P13.1: New", c, &plain{sources: sources, late: late, idle: idle})
				}
			}
		}
	}
}

func TestP13_1NewKnown(t *testing.T) {
	for _, x := range []struct {
		sources    int
		late, idle uint64
		want       api.Errno
	}{
		{1, 0, 0, api.OK},
		{16, 0, 0, api.OK},
		{0, 0, 0, api.ErrArg},
		{-1, 0, 0, api.ErrArg},
		{17, 0, 0, api.ErrArg},
		{1, 4611686018427387904, 4611686018427387904, api.OK},
		{16, 4611686018427387904, 4611686018427387904, api.OK},
		{1, 4611686018427387905, 0, api.ErrArg},
		{1, 0, 4611686018427387905, api.ErrArg},
		{1, math.MaxUint64, 0, api.ErrArg},
		{1, 0, math.MaxUint64, api.ErrArg},
		{17, math.MaxUint64, math.MaxUint64, api.ErrArg},
	} {
		if c, e := New(x.sources, x.late, x.idle); e != x.want || (c == nil) != (e != api.OK) {
			t.Errorf("P13.1: New(%d, %d, %d) = %v, %d, want %d", x.sources, x.late, x.idle, c, e, x.want)
		}
	}
}

// TestP13_1AsManySources lets all sources that New should have made say something, and the mark hang on each.
func TestP13_1AsManySources(t *testing.T) {
	for sources := 1; sources <= 16; sources++ {
		for last := range sources {
			c, p := made(t, sources, 3, 0)
			for i := range sources {
				if i != last {
					both(t, c, p, step{i, 100 + uint64(i)})
				}
			}
			if c.Mark() != 0 {
				t.Errorf("P13.1: %d sources, %d has said nothing: Mark() = %d", sources, last, c.Mark())
			}
			both(t, c, p, step{last, 50})
			if c.Mark() != 47 {
				t.Errorf("P13.1: %d sources, %d said 50: Mark() = %d, want 47", sources, last, c.Mark())
			}
			check(t, "P13.1: "+strconv.Itoa(sources)+" sources", c, p)
		}
	}
}

// refused does what is refused, and checks that all stays as it is by the document's words, now and behind what follows.
func refused(t *testing.T, what string, source int, end uint64) {
	t.Helper()
	for sources := 1; sources <= 16; sources += 5 {
		if source >= 0 && source < sources && end <= most {
			continue
		}
		for _, idle := range []uint64{0, 1, 2, 3} {
			c, p := made(t, sources, 2, idle)
			steps := append(seen(sources, 10, 7, 12, 9, 30), tick, tick, step{0, 20}, tick, tick, tick, step{0, 25})
			for i, s := range append([]step{tick}, steps...) {
				if e := c.See(source, end); e != api.ErrArg {
					t.Errorf("P13.1: %s: See(%d, %d) of %d = %d, want %d", what, source, end, sources, e, api.ErrArg)
				}
				check(t, "P13.1: "+what+", ahead of step "+strconv.Itoa(i), c, p)
				both(t, c, p, s)
				check(t, "P13.1: "+what+", behind step "+strconv.Itoa(i), c, p)
			}
		}
	}
}

func TestP13_1SeeOfNoSource(t *testing.T) {
	for _, sources := range []int{1, 6, 11, 16} {
		for _, source := range noSources(sources) {
			for _, end := range []uint64{0, 5, 1000, most, most + 1, math.MaxUint64} {
				refused(t, "no source", source, end)
			}
		}
	}
}

func TestP13_1SeeOfEndsThatAreTooGreat(t *testing.T) {
	for _, end := range []uint64{most + 1, most + 2, 1<<63 - 1, 1 << 63, 1<<63 + 5, math.MaxUint64 - 1, math.MaxUint64} {
		for _, source := range []int{0, 1, 5, 15} {
			refused(t, "too great", source, end)
		}
	}
}

func TestP13_1SeeOfTheGreatestEnd(t *testing.T) {
	for late, want := range map[uint64]uint64{0: most, 1: most - 1, 5: most - 5, 1 << 61: 1 << 61, most - 1: 1, most: 0} {
		c, p := made(t, 1, late, 0)
		if e := c.See(0, most); e != api.OK || c.Mark() != want {
			t.Errorf("P13.1: lateness %d: See(0, 2^62) = %d, Mark() = %d, want %d", late, e, c.Mark(), want)
		}
		p.do(step{0, most})
		if e := c.See(0, most+1); e != api.ErrArg {
			t.Errorf("P13.1: lateness %d: See(0, 2^62 + 1) = %d", late, e)
		}
		check(t, "P13.1: the greatest end", c, p)
	}
}

// TestP13_1RefusedWakesNobody: a source that is idle stays so, whatever wrong end it says.
func TestP13_1RefusedWakesNobody(t *testing.T) {
	c, p := made(t, 2, 0, 1)
	both(t, c, p, step{0, 9}, tick, step{1, 5})
	if c.Mark() != 5 || !c.Idle(0) {
		t.Fatalf("P13.1: Mark() = %d, Idle(0) = %v", c.Mark(), c.Idle(0))
	}
	for _, end := range []uint64{most + 1, math.MaxUint64} {
		if e := c.See(0, end); e != api.ErrArg || !c.Idle(0) || c.Mark() != 5 {
			t.Errorf("P13.1: See(0, %d) = %d, Idle(0) = %v, Mark() = %d", end, e, c.Idle(0), c.Mark())
		}
	}
	both(t, c, p, step{0, 7})
	if c.Mark() != 5 || c.Idle(0) {
		t.Errorf("P13.1: See(0, 7): Idle(0) = %v, Mark() = %d", c.Idle(0), c.Mark())
	}
	check(t, "P13.1: refused, then right", c, p)
}

// TestP13_1MarkKnown has marks written out, one behind each step.
func TestP13_1MarkKnown(t *testing.T) {
	for name, x := range map[string]struct {
		sources    int
		late, idle uint64
		steps      []step
		want       []uint64
	}{
		"one source":                  {1, 0, 0, seen(1, 5, 9, 9, 3, 10, 0, 11), []uint64{5, 9, 9, 9, 10, 10, 11}},
		"one, lateness 2":             {1, 2, 0, seen(1, 0, 1, 2, 3, 4, 3, 9), []uint64{0, 0, 0, 1, 2, 2, 7}},
		"one, lateness is the end":    {1, 9, 0, seen(1, 9, 9, 8, 10), []uint64{0, 0, 0, 1}},
		"one, lateness is more":       {1, 100, 0, seen(1, 9, 99, 100, 101), []uint64{0, 0, 0, 1}},
		"two":                         {2, 0, 0, seen(2, 10, 7, 8, 9, 20, 15), []uint64{0, 7, 7, 9, 9, 15}},
		"two, one falls":              {2, 0, 0, seen(2, 10, 7, 3, 9, 0, 12), []uint64{0, 7, 7, 9, 9, 10}},
		"three":                       {3, 1, 0, seen(3, 10, 20, 30, 40, 15, 5, 41, 21), []uint64{0, 0, 9, 19, 19, 19, 19, 20}},
		"ticks without an idle time":  {2, 0, 0, []step{{0, 10}, tick, tick, tick, {1, 4}, tick}, []uint64{0, 0, 0, 0, 4, 4}},
		"a tick makes idle":           {2, 0, 2, []step{{0, 10}, tick, {0, 10}, tick}, []uint64{0, 0, 0, 10}},
		"it needs one more":           {2, 0, 3, []step{{0, 10}, tick, {0, 10}, tick, tick}, []uint64{0, 0, 0, 0, 10}},
		"an idle time of 1":           {2, 0, 1, []step{{0, 10}, tick, {0, 10}, {1, 12}, {0, 20}}, []uint64{0, 0, 10, 10, 12}},
		"all idle":                    {2, 0, 1, []step{{0, 10}, {1, 5}, tick, tick, tick}, []uint64{0, 5, 5, 5, 5}},
		"none said anything":          {3, 0, 1, ticks(4), []uint64{0, 0, 0, 0}},
		"one wakes, others idle":      {3, 1, 1, []step{tick, {2, 9}, {2, 11}, tick, {1, 6}, {1, 30}}, []uint64{0, 8, 10, 10, 10, 29}},
		"one wakes behind the mark":   {2, 0, 1, []step{{1, 3}, tick, {0, 50}, {1, 4}, {0, 60}, {1, 49}, {1, 55}}, []uint64{0, 0, 50, 50, 50, 50, 55}},
		"one wakes by saying 0":       {2, 0, 1, []step{{1, 3}, tick, {0, 50}, {1, 0}, {0, 60}, tick, {0, 60}}, []uint64{0, 0, 50, 50, 50, 50, 60}},
		"the greatest is kept":        {2, 0, 1, []step{{1, 55}, tick, {0, 50}, {1, 0}, {0, 60}}, []uint64{0, 0, 50, 50, 55}},
		"saying less keeps one awake": {2, 0, 2, []step{{0, 9}, {1, 5}, tick, {1, 1}, {0, 9}, tick, {1, 1}, {0, 9}, tick, {0, 9}, tick}, []uint64{0, 5, 5, 5, 5, 5, 5, 5, 5, 5, 9}},
		"the ends of all":             {2, most, 1, []step{{0, most}, {1, most}, tick, {0, most}}, []uint64{0, 0, 0, 0}},
		"far ends":                    {2, 1, most, []step{{0, most}, {1, 1 << 61}, tick, {1, most}}, []uint64{0, 1<<61 - 1, 1<<61 - 1, most - 1}},
	} {
		c, p := made(t, x.sources, x.late, x.idle)
		for i, s := range x.steps {
			both(t, c, p, s)
			if c.Mark() != x.want[i] {
				t.Errorf("P13.1: %s: step %d: Mark() = %d, want %d", name, i, c.Mark(), x.want[i])
			}
			check(t, "P13.1: "+name+", the words", c, p)
		}
	}
}

// TestP13_1LatenessAgainstEnds has each lateness against ends that are less, the same, and more.
func TestP13_1LatenessAgainstEnds(t *testing.T) {
	for _, late := range []uint64{0, 1, 2, 10, 1 << 32, 1 << 61, most - 1, most} {
		for _, d := range []int64{math.MinInt64, -10, -2, -1, 0, 1, 2, 10, math.MaxInt64} {
			end, want := uint64(0), uint64(0)
			switch at := new(big.Int).Add(asBig(late), big.NewInt(d)); {
			case at.Cmp(asBig(most)) > 0:
				end, want = most, most-late
			case at.Sign() >= 0:
				end, want = at.Uint64(), uint64(max(d, 0))
			}
			for sources := 1; sources <= 3; sources++ {
				c, p := made(t, sources, late, 0)
				for i := range sources {
					both(t, c, p, step{i, end})
				}
				if c.Mark() != want {
					t.Errorf("P13.1: lateness %d, %d sources at %d: Mark() = %d, want %d", late, sources, end, c.Mark(), want)
				}
				check(t, "P13.1: lateness "+strconv.FormatUint(late, 10), c, p)
			}
		}
	}
}

func TestP13_1EndsRiseFallAndStay(t *testing.T) {
	ends := []uint64{5, 9, 9, 9, 8, 0, 10, 10, 3, 11, 40, 41, 39, 41, 42, 7, 42, 100, 100, 0, 0, 101, most, 5, most}
	for _, late := range []uint64{0, 1, 7, 40, 41, 42, 1000, most} {
		for _, idle := range []uint64{0, 1, 2, 5} {
			for sources := 1; sources <= 4; sources++ {
				follow(t, "P13.1: ends", sources, late, idle, seen(sources, ends...)...)
				var ticking []step
				for i, s := range seen(sources, ends...) {
					ticking = append(append(ticking, s), ticks(i%3)...)
				}
				follow(t, "P13.1: ends and ticks", sources, late, idle, ticking...)
			}
		}
	}
}

// TestP13_1TheOrderOfSourcesPlaysNoPart: without an idle time the mark hangs on the greatest ends alone.
func TestP13_1TheOrderOfSourcesPlaysNoPart(t *testing.T) {
	r := rand.New(rand.NewSource(1))
	for range 50 {
		sources := 1 + r.Intn(16)
		steps := noise(r, sources, 60, 2, 1000)
		first, _ := made(t, sources, 30, 0)
		for _, s := range steps {
			tell(t, first, s)
		}
		r.Shuffle(len(steps), func(i, j int) { steps[i], steps[j] = steps[j], steps[i] })
		other, p := made(t, sources, 30, 0)
		both(t, other, p, steps...)
		if first.Mark() != other.Mark() || first.Now() != other.Now() {
			t.Errorf("P13.1: shuffled: Mark() = %d, want %d", other.Mark(), first.Mark())
		}
		check(t, "P13.1: shuffled", other, p)
	}
}

func TestP13_1NobodyIsIdleWithoutAnIdleTime(t *testing.T) {
	c, p := made(t, 3, 0, 0)
	both(t, c, p, step{0, 10}, step{1, 20})
	for i := range 1000 {
		both(t, c, p, tick)
		if c.Idle(0) || c.Idle(1) || c.Idle(2) || c.Mark() != 0 {
			t.Fatalf("P13.1: tick %d: Idle = %v, %v, %v, Mark() = %d", i, c.Idle(0), c.Idle(1), c.Idle(2), c.Mark())
		}
	}
	check(t, "P13.1: 1000 ticks", c, p)
	both(t, c, p, step{2, 15})
	if c.Mark() != 10 {
		t.Errorf("P13.1: Mark() = %d, want 10", c.Mark())
	}
}

// TestP13_1IdleAtWhichTick lets one say something at each tick up to some, and others then, and at 0.
func TestP13_1IdleAtWhichTick(t *testing.T) {
	for _, idle := range []uint64{1, 2, 3, 7, 50} {
		for at := range uint64(6) {
			c, p := made(t, 3, 0, idle)
			for now := range at + 3*idle + 2 {
				if now == at {
					both(t, c, p, step{1, 7})
				}
				if now <= at {
					both(t, c, p, step{0, 5})
				}
				what := "P13.1: an idle time of " + strconv.FormatUint(idle, 10) + ", tick " + strconv.FormatUint(now, 10)
				if got, want := c.Idle(0), now >= at+idle; got != want {
					t.Errorf("%s: Idle(0) = %v, said something till %d", what, got, at)
				}
				if got, want := c.Idle(1), now >= idle && (now < at || now >= at+idle); got != want {
					t.Errorf("%s: Idle(1) = %v, said something at %d", what, got, at)
				}
				if got, want := c.Idle(2), now >= idle; got != want {
					t.Errorf("%s: Idle(2) = %v, said nothing", what, got)
				}
				check(t, what, c, p)
				both(t, c, p, tick)
			}
		}
	}
}

func TestP13_1AnIdleTimeThatIsNotReached(t *testing.T) {
	for _, idle := range []uint64{1001, 1 << 32, 1<<62 - 1, most} {
		c, p := made(t, 2, 0, idle)
		both(t, c, p, step{0, most})
		both(t, c, p, ticks(1000)...)
		if c.Idle(0) || c.Idle(1) || c.Mark() != 0 || c.Now() != 1000 {
			t.Errorf("P13.1: an idle time of %d: Idle = %v, %v, Mark() = %d", idle, c.Idle(0), c.Idle(1), c.Mark())
		}
		check(t, "P13.1: not reached", c, p)
	}
}

// TestP13_1TheOthersMark makes each one of several idle: the mark is the least one of the others.
func TestP13_1TheOthersMark(t *testing.T) {
	for sources := 2; sources <= 16; sources++ {
		for out := range sources {
			c, p := made(t, sources, 1, 2)
			for i := range sources {
				both(t, c, p, step{i, 100 + 10*uint64((i-out+sources)%sources)})
			}
			// 100 is of the one that becomes idle, 110 the least one of the others.
			if c.Mark() != 99 {
				t.Errorf("P13.1: %d sources: Mark() = %d, want 99", sources, c.Mark())
			}
			both(t, c, p, tick)
			for i := range sources {
				if i != out {
					both(t, c, p, step{i, 0})
				}
			}
			if c.Mark() != 99 || c.Idle(out) {
				t.Errorf("P13.1: %d sources, %d before it is idle: Mark() = %d, want 99", sources, out, c.Mark())
			}
			both(t, c, p, tick)
			if c.Mark() != 109 || !c.Idle(out) {
				t.Errorf("P13.1: %d sources, %d is idle: Mark() = %d, want 109", sources, out, c.Mark())
			}
			check(t, "P13.1: one is idle", c, p)
		}
	}
}

func TestP13_1TheMarkStaysWhereAllAreIdle(t *testing.T) {
	for sources := 1; sources <= 16; sources++ {
		c, p := made(t, sources, 1, 2)
		for i := range sources {
			both(t, c, p, step{i, 100 + uint64(i)})
		}
		for i := range 20 {
			both(t, c, p, tick)
			if c.Mark() != 99 || c.Idle(0) != (i >= 1) {
				t.Errorf("P13.1: %d sources, tick %d: Mark() = %d, want 99; Idle(0) = %v", sources, i, c.Mark(), c.Idle(0))
			}
			check(t, "P13.1: all are idle", c, p)
		}
	}
}

// TestP13_1WhoSaysSomethingIsIdleNoMore wakes one by more, the same, less, and 0; all others are idle.
func TestP13_1WhoSaysSomethingIsIdleNoMore(t *testing.T) {
	for _, idle := range []uint64{1, 2, 5} {
		for end, want := range map[uint64]uint64{0: 50, 1: 50, 49: 50, 50: 50, 51: 51, 70: 70, most: most} {
			for sources := 1; sources <= 4; sources++ {
				c, p := made(t, sources, 0, idle)
				for i := range sources {
					both(t, c, p, step{i, 50})
				}
				both(t, c, p, ticks(int(idle)+3)...)
				if !c.Idle(0) || c.Mark() != 50 {
					t.Fatalf("P13.1: Idle(0) = %v, Mark() = %d", c.Idle(0), c.Mark())
				}
				both(t, c, p, step{0, end})
				if c.Idle(0) || c.Mark() != want {
					t.Errorf("P13.1: it says %d: Idle(0) = %v, Mark() = %d, want %d", end, c.Idle(0), c.Mark(), want)
				}
				check(t, "P13.1: it says something", c, p)
				both(t, c, p, ticks(int(idle)-1)...)
				if c.Idle(0) {
					t.Errorf("P13.1: it said %d: Idle(0) %d ticks behind", end, idle-1)
				}
				both(t, c, p, tick)
				if !c.Idle(0) {
					t.Errorf("P13.1: it said %d: not Idle(0) %d ticks behind", end, idle)
				}
				check(t, "P13.1: idle again", c, p)
			}
		}
	}
}

// TestP13_1OneThatWakesHoldsTheMark: it is below the mark, which stays till it has come past it.
func TestP13_1OneThatWakesHoldsTheMark(t *testing.T) {
	c, p := made(t, 2, 0, 1)
	both(t, c, p, step{1, 10}, tick, step{0, 100})
	for _, x := range []struct {
		step step
		want uint64
	}{
		{step{1, 20}, 100}, {step{0, 200}, 100}, {step{1, 99}, 100}, {step{1, 100}, 100}, {step{1, 101}, 101}, {step{1, 300}, 200},
	} {
		both(t, c, p, x.step)
		if c.Mark() != x.want || c.Idle(0) || c.Idle(1) {
			t.Errorf("P13.1: See(%d, %d): Mark() = %d, want %d", x.step.source, x.step.end, c.Mark(), x.want)
		}
		check(t, "P13.1: it wakes", c, p)
	}
}

// TestP13_1AllShortRuns has every run of up to five steps of two sources and few ends.
func TestP13_1AllShortRuns(t *testing.T) {
	kinds := []step{tick, {0, 0}, {0, 1}, {0, 3}, {1, 0}, {1, 2}, {1, 3}}
	for _, late := range []uint64{0, 1, 3} {
		for _, idle := range []uint64{0, 1, 2} {
			for length := 1; length <= 5; length++ {
				runs := int(math.Pow(float64(len(kinds)), float64(length)))
				for n := range runs {
					c, p := made(t, 2, late, idle)
					for range length {
						both(t, c, p, kinds[n%len(kinds)])
						n /= len(kinds)
					}
					check(t, "P13.1: lateness "+strconv.FormatUint(late, 10)+", idle time "+strconv.FormatUint(idle, 10), c, p)
				}
			}
		}
	}
}

func TestP13_1LongRuns(t *testing.T) {
	for seed := range int64(80) {
		r := rand.New(rand.NewSource(seed))
		sources, ticksOfTen := 1+r.Intn(16), r.Intn(9)
		late, idle := uint64(r.Intn(60)), uint64(r.Intn(8))
		steps := rising(r, sources, 100, ticksOfTen)
		switch seed % 4 {
		case 1:
			steps = noise(r, sources, 100, ticksOfTen, 100)
		case 2:
			late = r.Uint64() % (most + 1)
			steps = noise(r, sources, 100, ticksOfTen, most+1)
		}
		follow(t, "P13.1: seed "+strconv.FormatInt(seed, 10), sources, late, idle, steps...)
	}
}

func TestP13_2Now(t *testing.T) {
	for sources := 1; sources <= 16; sources += 5 {
		c, _ := made(t, sources, 3, 2)
		for n := range uint64(300) {
			if c.Now() != n {
				t.Errorf("P13.2: Now() = %d, want %d", c.Now(), n)
			}
			c.See(0, n)
			c.See(-1, n)
			c.See(sources, n)
			c.See(0, most+1)
			c.Mark()
			c.Late(n)
			c.Idle(0)
			if c.Now() != n {
				t.Errorf("P13.2: Now() = %d behind what is no tick, want %d", c.Now(), n)
			}
			c.Tick()
		}
	}
}

func TestP13_2Late(t *testing.T) {
	for mark, x := range map[uint64]map[uint64]bool{
		0:        {0: false, 1: false, most: false, 1 << 63: false, math.MaxUint64: false},
		1:        {0: true, 1: false, 2: false, math.MaxUint64: false},
		90:       {0: true, 1: true, 89: true, 90: false, 91: false, most: false, 1 << 63: false, math.MaxUint64: false},
		1 << 61:  {0: true, 1<<61 - 1: true, 1 << 61: false, 1<<61 + 1: false, 1<<63 + 1: false, math.MaxUint64: false},
		most - 1: {0: true, most - 2: true, most - 1: false, most: false, math.MaxUint64: false},
		most:     {0: true, most - 1: true, most: false, most + 1: false, 1<<63 - 1: false, 1 << 63: false, math.MaxUint64: false},
	} {
		c, _ := made(t, 1, 0, 0)
		c.See(0, mark)
		for end, want := range x {
			if got := c.Late(end); got != want {
				t.Errorf("P13.2: the mark is %d: Late(%d) = %v, want %v", mark, end, got, want)
			}
			if c.Mark() != mark {
				t.Errorf("P13.2: Late(%d) changed the mark to %d, want %d", end, c.Mark(), mark)
			}
		}
	}
}

// TestP13_2LateIsByTheMark: not by the ends, and not by the lateness once more.
func TestP13_2LateIsByTheMark(t *testing.T) {
	c, _ := made(t, 2, 10, 0)
	c.See(0, 100)
	if c.Late(0) || c.Late(50) || c.Late(89) {
		t.Error("P13.2: Late, where the mark is 0")
	}
	c.See(1, 60)
	for end, want := range map[uint64]bool{0: true, 39: true, 40: true, 49: true, 50: false, 51: false, 60: false, 89: false, 99: false} {
		if c.Late(end) != want {
			t.Errorf("P13.2: the mark is 50: Late(%d) = %v, want %v", end, !want, want)
		}
	}
}

func TestP13_2IdleOfNoSource(t *testing.T) {
	for sources := 1; sources <= 16; sources++ {
		for _, idle := range []uint64{0, 1, 2, most} {
			c, _ := made(t, sources, 0, idle)
			for range 5 {
				for _, i := range noSources(sources) {
					if c.Idle(i) {
						t.Errorf("P13.2: %d sources: Idle(%d) = true", sources, i)
					}
				}
				c.Tick()
			}
			for i := range sources {
				if c.Idle(i) != (idle == 1 || idle == 2) {
					t.Errorf("P13.2: %d sources, an idle time of %d: Idle(%d) = %v", sources, idle, i, c.Idle(i))
				}
			}
		}
	}
}

// TestP13_2AskingChangesNothing asks one of two clocks for all between the steps.
func TestP13_2AskingChangesNothing(t *testing.T) {
	r := rand.New(rand.NewSource(2))
	for range 20 {
		sources := 1 + r.Intn(5)
		asked, p := made(t, sources, 5, 3)
		other, _ := made(t, sources, 5, 3)
		for _, s := range rising(r, sources, 60, 4) {
			both(t, asked, p, s)
			check(t, "P13.2: asked", asked, p)
			tell(t, other, s)
		}
		check(t, "P13.2: asked at the end alone", other, p)
	}
}

// TestP13_3TheMarkNeverFalls holds the mark against nothing but the one ahead.
func TestP13_3TheMarkNeverFalls(t *testing.T) {
	for seed := range int64(300) {
		r := rand.New(rand.NewSource(seed))
		sources, ticksOfTen := 1+r.Intn(16), r.Intn(10)
		late, idle := uint64(r.Intn(100)), uint64(r.Intn(5))
		ends := uint64(1 + r.Intn(1000))
		if seed%3 == 0 {
			late, ends = r.Uint64()%(most+1), most+1
		}
		c, _ := made(t, sources, late, idle)
		last := c.Mark()
		for i, s := range noise(r, sources, 1000, ticksOfTen, ends) {
			tell(t, c, s)
			if r.Intn(20) == 0 {
				c.See(r.Intn(40)-20, r.Uint64())
			}
			if c.Mark() < last {
				t.Fatalf("P13.3: seed %d, step %d: Mark() = %d, was %d", seed, i, c.Mark(), last)
			}
			last = c.Mark()
		}
	}
}

// TestP13_3WhoeverWakes lets each source wake in turn, with nothing or little to say, when the mark is far ahead.
func TestP13_3WhoeverWakes(t *testing.T) {
	for sources := 2; sources <= 16; sources++ {
		for _, end := range []uint64{0, 1, 10, 999} {
			c, p := made(t, sources, 0, 1)
			both(t, c, p, tick, step{0, 1000})
			for i := 1; i < sources; i++ {
				both(t, c, p, step{i, end})
				if c.Mark() != 1000 || c.Idle(i) {
					t.Errorf("P13.3: %d wakes by %d: Mark() = %d, want 1000", i, end, c.Mark())
				}
			}
			both(t, c, p, tick, tick)
			if c.Mark() != 1000 {
				t.Errorf("P13.3: all are idle again: Mark() = %d, want 1000", c.Mark())
			}
			check(t, "P13.3: whoever wakes", c, p)
		}
	}
}

// TestP13_3LessChangesNothingWithoutAnIdleTime puts sayings of less between the steps of one of two clocks.
func TestP13_3LessChangesNothingWithoutAnIdleTime(t *testing.T) {
	r := rand.New(rand.NewSource(3))
	for range 30 {
		sources := 1 + r.Intn(6)
		more, p := made(t, sources, 20, 0)
		other, _ := made(t, sources, 20, 0)
		said := make([]uint64, sources)
		for _, s := range rising(r, sources, 80, 3) {
			tell(t, more, s)
			both(t, other, p, s)
			if s.source != isTick {
				said[s.source] = max(said[s.source], s.end)
			}
			for i, end := range said {
				tell(t, more, step{i, 0})
				tell(t, more, step{i, r.Uint64() % (end + 1)})
				tell(t, more, step{i, end})
			}
			check(t, "P13.3: less was said", more, p)
			check(t, "P13.3: less wasn't said", other, p)
		}
	}
}

// TestP13_3LessIsAsGoodAsTheSame: with an idle time it wakes, as saying the greatest end once more does.
func TestP13_3LessIsAsGoodAsTheSame(t *testing.T) {
	for seed := range int64(60) {
		r := rand.New(rand.NewSource(seed))
		sources, idle := 1+r.Intn(6), uint64(1+r.Intn(4))
		less, p := made(t, sources, 3, idle)
		same, _ := made(t, sources, 3, idle)
		said := make([]uint64, sources)
		for i, s := range noise(r, sources, 100, 5, 100) {
			tell(t, less, s)
			p.do(s)
			if s.source != isTick {
				said[s.source] = max(said[s.source], s.end)
				s.end = said[s.source]
			}
			tell(t, same, s)
			what := "P13.3: seed " + strconv.FormatInt(seed, 10) + ", step " + strconv.Itoa(i)
			check(t, what+": less", less, p)
			check(t, what+": the same", same, p)
		}
	}
}

func TestR1NilClock(t *testing.T) {
	var c *Clock
	for range 3 {
		for _, i := range append(noSources(16), 0, 1, 7, 15) {
			for _, end := range []uint64{0, 1, 100, most, most + 1, 1 << 63, math.MaxUint64} {
				if e := c.See(i, end); e != api.ErrNil {
					t.Errorf("P13.1: nil.See(%d, %d) = %d", i, end, e)
				}
				if c.Late(end) {
					t.Errorf("P13.2: nil.Late(%d) = true", end)
				}
			}
			if c.Idle(i) {
				t.Errorf("P13.2: nil.Idle(%d) = true", i)
			}
		}
		if e := c.Tick(); e != api.ErrNil {
			t.Errorf("P13.1: nil.Tick() = %d", e)
		}
		if c.Mark() != 0 || c.Now() != 0 {
			t.Errorf("P13.2: nil: Mark() = %d, Now() = %d", c.Mark(), c.Now())
		}
	}
}

func TestR1NilThatNewTold(t *testing.T) {
	for _, sources := range []int{math.MinInt, -1, 0, 17, math.MaxInt} {
		c, _ := New(sources, 0, 0)
		if c.See(0, 1) != api.ErrNil || c.Tick() != api.ErrNil || c.Mark() != 0 || c.Now() != 0 || c.Late(0) || c.Idle(0) {
			t.Errorf("R1: what New told of %d sources is no nil clock", sources)
		}
	}
}

// TestR1NotMadeByNew: one that nobody made by New has no sources, so that nothing but ticks can be told.
func TestR1NotMadeByNew(t *testing.T) {
	var c Clock
	p := &plain{}
	for range 10 {
		check(t, "R1: not made by New", &c, p)
		for _, i := range append(noSources(16), 0, 1, 15) {
			for _, end := range []uint64{0, 1, most, most + 1, math.MaxUint64} {
				if e := c.See(i, end); e != api.ErrArg {
					t.Errorf("R1: See(%d, %d) of one that isn't made by New = %d", i, end, e)
				}
			}
			if c.Idle(i) {
				t.Errorf("R1: Idle(%d) of one that isn't made by New = true", i)
			}
		}
		check(t, "R1: not made by New, refused", &c, p)
		both(t, &c, p, tick)
	}
}

// TestR1CopyOfAClock asks for no more than answers, and that no mark falls: what a copy has in common with its other
// one the document leaves open.
func TestR1CopyOfAClock(t *testing.T) {
	r := rand.New(rand.NewSource(4))
	c, _ := made(t, 3, 5, 2)
	all := []Clock{*c, *c, *c, {}}
	for i := range 3000 {
		c := &all[r.Intn(len(all))]
		was := c.Mark()
		c.See(r.Intn(5)-1, uint64(r.Intn(i+1)))
		if r.Intn(3) == 0 {
			c.Tick()
		}
		c.Idle(r.Intn(5) - 1)
		c.Late(uint64(r.Intn(i + 1)))
		if c.Mark() < was {
			t.Errorf("R1: a copy's Mark() = %d, was %d", c.Mark(), was)
		}
	}
}

func TestR2NilIsToldFirst(t *testing.T) {
	var c *Clock
	if e := c.See(-1, math.MaxUint64); e != api.ErrNil {
		t.Errorf("R2: nil.See(-1, 2^64 - 1) = %d", e)
	}
}

func TestR2ErrorTellsNoClock(t *testing.T) {
	for _, x := range []struct {
		sources    int
		late, idle uint64
	}{{0, 0, 0}, {17, 0, 0}, {-1, 5, 5}, {3, most + 1, 0}, {3, 0, most + 1}, {0, most + 1, most + 1}} {
		if c, e := New(x.sources, x.late, x.idle); c != nil || e != api.ErrArg {
			t.Errorf("R2: New(%d, %d, %d) = %v, %d", x.sources, x.late, x.idle, c, e)
		}
	}
}

// TestR5NothingGoesRound has a lateness above each end: a difference that went round would be far above all ends.
func TestR5NothingGoesRound(t *testing.T) {
	for _, late := range []uint64{1000, 1 << 62} {
		for _, idle := range []uint64{0, 1, most} {
			c, p := made(t, 2, late, idle)
			for end := range uint64(1000) {
				both(t, c, p, step{int(end % 2), end})
				if c.Mark() != 0 || c.Late(0) {
					t.Fatalf("R5: lateness %d, end %d: Mark() = %d", late, end, c.Mark())
				}
			}
			both(t, c, p, tick, tick)
			check(t, "R5", c, p)
		}
	}
}

func TestR6NothingIsKept(t *testing.T) {
	first, p := made(t, 2, 2, 3)
	both(t, first, p, step{0, 10}, tick, step{1, 7})
	for sources := 1; sources <= 16; sources++ {
		c, _ := made(t, sources, 0, 1)
		for i := range sources {
			tell(t, c, step{i, most})
		}
		tell(t, c, tick)
		fresh, q := made(t, sources, 0, 1)
		check(t, "R6: a new one behind another", fresh, q)
		check(t, "R6: one behind another", first, p)
	}
	one, a := made(t, 2, 0, 1)
	other, b := made(t, 2, 0, 1)
	both(t, one, a, step{0, 5}, step{1, 6}, tick)
	both(t, other, b, step{1, 9}, tick, tick, step{0, 4})
	check(t, "R6: one of two", one, a)
	check(t, "R6: the other of two", other, b)
}

func FuzzClock(f *testing.F) {
	asBytes := func(l []step) []byte {
		var b []byte
		for _, s := range l {
			b = binary.LittleEndian.AppendUint64(append(b, byte(s.source)), s.end)
		}
		return b
	}
	r := rand.New(rand.NewSource(5))
	f.Add(2, uint64(2), uint64(0), asBytes(seen(2, 10, 7)))
	f.Add(17, uint64(0), uint64(0), asBytes(nil))
	f.Add(1, uint64(most+1), uint64(0), asBytes(nil))
	f.Add(1, uint64(0), uint64(math.MaxUint64), asBytes(nil))
	f.Add(3, uint64(4), uint64(1), asBytes(noise(r, 5, 50, 4, 100)))
	f.Add(16, uint64(most), uint64(2), asBytes(noise(r, 16, 50, 4, most+10)))
	f.Fuzz(func(t *testing.T, sources int, late, idle uint64, b []byte) {
		c, e := New(sources, late, idle)
		right := sources >= 1 && sources <= 16 && late <= most && idle <= most
		if right != (e == api.OK) || right != (c != nil) {
			t.Fatalf("P13.1: New(%d, %d, %d) = %v, %d", sources, late, idle, c, e)
		}
		p := &plain{sources: sources, late: late, idle: idle}
		for ; right && len(b) >= 9; b = b[9:] {
			s := step{int(int8(b[0])), binary.LittleEndian.Uint64(b[1:])}
			if s.source == isTick {
				both(t, c, p, tick)
			} else if s.source >= 0 && s.source < sources && s.end <= most {
				both(t, c, p, s)
			} else if e := c.See(s.source, s.end); e != api.ErrArg {
				t.Fatalf("P13.1: See(%d, %d) = %d", s.source, s.end, e)
			}
			check(t, "P13", c, p)
		}
	})
}
