package window

import (
	"math"
	"math/rand"
	"slices"
	"testing"

	"hostler/api"
)

const (
	maxTick = 1 << 40
	maxSpan = 1 << 20
)

// realTick is layer 1's cut, in other words than the program's.
func realTick(n int) int {
	switch {
	case n <= 0:
		return 0
	case n < maxTick:
		return n
	}
	return maxTick
}

// realSpan is the nearer one of both bounds.
func realSpan(n int) int {
	switch {
	case n <= 1:
		return 1
	case n < maxSpan:
		return n
	}
	return maxSpan
}

// plain keeps all that it was given, and works each answer out from the beginning.
type plain struct {
	span  int
	added []int // as they count, since the last Reset
	told  []int // by either call, from the beginning on
}

func (p *plain) has() []int {
	var l []int
	for _, at := range p.added {
		if len(p.told) == 0 || slices.Max(p.told)-at < realSpan(p.span) {
			l = append(l, at)
		}
	}
	return l
}

func (p *plain) lateAt(now int) int {
	n := 0
	for _, at := range p.has() {
		if now-at < realSpan(p.span) {
			n++
		}
	}
	return n
}

func (p *plain) Add(at int) int {
	if last, has := p.Last(); has && realTick(at) < last {
		at = last
	}
	p.added = append(p.added, realTick(at))
	p.told = append(p.told, realTick(at))
	return p.lateAt(realTick(at))
}

func (p *plain) Count(now int) int {
	p.told = append(p.told, realTick(now))
	return p.lateAt(realTick(now))
}

func (p *plain) Reset()   { p.added = nil }
func (p *plain) Len() int { return len(p.has()) }
func (p *plain) Last() (int, bool) {
	l := p.has()
	if len(l) == 0 {
		return 0, false
	}
	return l[len(l)-1], true
}

func plainRate(l []int, span, now int) int {
	n := 0
	for _, at := range l {
		if realTick(now)-realTick(at) < realSpan(span) {
			n++
		}
	}
	return n
}

// edges are the numbers at which an answer could turn or wrap.
func edges() []int {
	return []int{
		math.MinInt, math.MinInt + 1, -maxTick - 1, -maxTick, -maxSpan - 1, -2, -1,
		0, 1, 2, 3, 7, maxSpan - 1, maxSpan, maxSpan + 1, 2 * maxSpan, 1 << 31, 1 << 32,
		maxTick - maxSpan - 1, maxTick - maxSpan, maxTick - maxSpan + 1, maxTick - 2, maxTick - 1, maxTick, maxTick + 1, 2 * maxTick,
		1 << 62, math.MaxInt - 1, math.MaxInt,
	}
}

// The calls, as a row of them names them.
const (
	add = iota
	count
	reset
)

type call struct{ what, at int }

// do makes a call, and answers what it answers.
func (c call) do(w interface {
	Add(int) int
	Count(int) int
	Reset()
}) int {
	switch c.what {
	case add:
		return w.Add(c.at)
	case count:
		return w.Count(c.at)
	}
	w.Reset()
	return 0
}

// same holds a row of calls of a window against the plain one.
func same(t *testing.T, span int, row []call) {
	t.Helper()
	w, p := New(span), &plain{span: span}
	for i, c := range row {
		got, want := c.do(w), c.do(p)
		last, has := w.Last()
		wantLast, wantHas := p.Last()
		if got != want || w.Len() != p.Len() || last != wantLast || has != wantHas {
			t.Fatalf("span %d, %v: call %d answers %d, Len %d, Last %d, %v; want %d, %d, %d, %v",
				span, row[:i+1], i, got, w.Len(), last, has, want, p.Len(), wantLast, wantHas)
		}
	}
}

// step is a call, and what is wanted of it.
type step struct{ what, at, want int }

func steps(t *testing.T, span int, row []step) {
	t.Helper()
	w := New(span)
	for i, s := range row {
		if got := (call{s.what, s.at}).do(w); got != s.want {
			t.Errorf("span %d, call %d (%d at %d) answers %d, want %d", span, i, s.what, s.at, got, s.want)
		}
	}
}

func TestTheLimits(t *testing.T) {
	if api.MaxSpan != maxSpan || api.MaxTick != maxTick {
		t.Fatalf("MaxSpan is %d, MaxTick %d", api.MaxSpan, api.MaxTick)
	}
}

// P6.1: the chapter's examples.
func TestExamples(t *testing.T) {
	steps(t, 10, []step{{add, 0, 1}, {add, 5, 2}, {add, 9, 3}, {count, 9, 3}, {count, 10, 2}, {count, 19, 0}})
	for _, x := range [][2]int{{9, 3}, {10, 2}, {14, 2}, {15, 1}, {18, 1}, {19, 0}} {
		if got := Rate([]int{0, 5, 9}, 10, x[0]); got != x[1] {
			t.Errorf("Rate at %d = %d, want %d", x[0], got, x[1])
		}
	}
}

// P6.1: a window is 1 to MaxSpan ticks long, whatever is asked for.
func TestSpans(t *testing.T) {
	for _, x := range []struct{ span, want int }{
		{math.MinInt, 1}, {-maxSpan, 1}, {-1, 1}, {0, 1}, {1, 1}, {2, 2}, {10, 10},
		{maxSpan - 1, maxSpan - 1}, {maxSpan, maxSpan}, {maxSpan + 1, maxSpan}, {maxTick, maxSpan}, {math.MaxInt, maxSpan},
	} {
		for _, from := range []int{0, 5, maxTick - maxSpan} {
			steps(t, x.span, []step{{add, from, 1}, {count, from + x.want - 1, 1}, {count, from + x.want, 0}})
			steps(t, x.span, []step{{add, from, 1}, {add, from + x.want - 1, 2}})
			steps(t, x.span, []step{{add, from, 1}, {add, from + x.want, 1}})
			if got := Rate([]int{from}, x.span, from+x.want-1); got != 1 {
				t.Errorf("Rate of %d in %d, a tick ahead of its end = %d, want 1", from, x.span, got)
			}
			if got := Rate([]int{from}, x.span, from+x.want); got != 0 {
				t.Errorf("Rate of %d in %d, at its end = %d, want 0", from, x.span, got)
			}
		}
	}
}

// P6.1: Add at ticks that rise, stay and fall.
func TestAdd(t *testing.T) {
	steps(t, 5, []step{{add, 1, 1}, {add, 2, 2}, {add, 5, 3}, {add, 6, 3}, {add, 10, 2}, {add, 11, 2}, {add, 16, 1}, {add, 100, 1}})
	steps(t, 5, []step{{add, 7, 1}, {add, 7, 2}, {add, 7, 3}, {add, 11, 4}, {add, 12, 2}, {add, 12, 3}})
	steps(t, 1, []step{{add, 7, 1}, {add, 7, 2}, {add, 8, 1}, {add, 8, 2}, {add, 9, 1}})
	// 2 counts as 4: it is of late at 8, and not at 9.
	steps(t, 5, []step{{add, 4, 1}, {add, 2, 2}, {count, 8, 2}, {count, 9, 0}})
	steps(t, 5, []step{{add, 100, 1}, {add, 3, 2}, {add, -7, 3}, {add, math.MinInt, 4}, {count, 104, 4}, {count, 105, 0}})
	steps(t, 5, []step{{add, 3, 1}, {add, 9, 1}, {add, 4, 2}, {add, 8, 3}, {count, 13, 3}, {count, 14, 0}})
}

// P6.1: Add at ticks that are cut.
func TestAddCuts(t *testing.T) {
	steps(t, 5, []step{{add, -3, 1}, {add, math.MinInt, 2}, {add, 0, 3}, {count, 4, 3}, {count, 5, 0}})
	steps(t, 5, []step{{add, maxTick - 5, 1}, {add, maxTick - 4, 2}, {add, maxTick + 1, 2}, {add, math.MaxInt, 3}, {count, math.MaxInt, 3}, {add, 0, 4}})
	for _, x := range [][2]int{{-1, 0}, {math.MinInt, 0}, {0, 0}, {7, 7}, {maxTick - 1, maxTick - 1}, {maxTick, maxTick}, {maxTick + 1, maxTick}, {math.MaxInt, maxTick}} {
		w := New(5)
		w.Add(x[0])
		if last, has := w.Last(); last != x[1] || !has {
			t.Errorf("behind Add(%d) the last one is %d, %v, want %d", x[0], last, has, x[1])
		}
	}
}

// P6.1: Count at ticks less than, just and more than the span behind, and at ticks that are cut.
func TestCount(t *testing.T) {
	steps(t, 5, []step{{count, 0, 0}, {count, 9, 0}})
	for _, x := range [][2]int{{math.MinInt, 3}, {-1, 3}, {0, 3}, {9, 3}, {12, 3}, {14, 3}, {15, 2}, {16, 2}, {17, 1}, {18, 1}, {19, 0}, {20, 0}, {maxTick, 0}, {math.MaxInt, 0}} {
		steps(t, 5, []step{{add, 10, 1}, {add, 12, 2}, {add, 14, 3}, {count, x[0], x[1]}, {count, x[0], x[1]}})
	}
}

// P6.1: Count at a tick below one that was told before.
func TestCountBelow(t *testing.T) {
	steps(t, 5, []step{{add, 3, 1}, {add, 6, 2}, {count, 8, 1}, {count, 7, 1}, {count, 3, 1}, {count, 0, 1}, {count, math.MinInt, 1}, {count, 11, 0}, {count, 6, 0}})
	// The tick that an Add tells counts as well.
	steps(t, 5, []step{{add, 3, 1}, {add, 8, 1}, {count, 4, 1}, {add, 5, 2}, {count, 0, 2}})
}

// P6.1: what comes behind the greatest tick that was told is none, whichever call told it.
func TestAddBelowWhatWasTold(t *testing.T) {
	steps(t, 10, []step{{count, 100, 0}, {add, 90, 0}, {count, 90, 0}, {add, 91, 1}, {add, 50, 2}, {count, 100, 2}, {count, 101, 0}, {add, 91, 0}, {add, 92, 1}})
	steps(t, 10, []step{{add, 0, 1}, {count, 100, 0}, {add, 50, 0}, {add, 0, 0}, {add, 100, 1}})
	w := New(10)
	w.Count(100)
	w.Add(90)
	if last, has := w.Last(); last != 0 || has || w.Len() != 0 {
		t.Errorf("Len %d, Last %d, %v, want none", w.Len(), last, has)
	}
	// A count that is cut tells MaxTick, and no more.
	steps(t, 2, []step{{count, math.MaxInt, 0}, {add, maxTick - 2, 0}, {add, maxTick - 1, 1}})
}

// P6.1: Len and Last of a window that has none, one and many.
func TestLenAndLast(t *testing.T) {
	w := New(5)
	want := func(n, at int, is bool) {
		t.Helper()
		if last, has := w.Last(); w.Len() != n || last != at || has != is {
			t.Errorf("Len %d, Last %d, %v; want %d, %d, %v", w.Len(), last, has, n, at, is)
		}
	}
	want(0, 0, false)
	w.Count(2)
	want(0, 0, false)
	w.Add(3)
	want(1, 3, true)
	w.Add(1)
	want(2, 3, true)
	w.Add(6)
	want(3, 6, true)
	w.Count(8)
	want(1, 6, true)
	w.Count(0)
	want(1, 6, true)
	w.Count(11)
	want(0, 0, false)
	w.Add(7)
	want(1, 7, true)
}

// P6.1: Reset of a window that has none, one and many, and calls behind it.
func TestReset(t *testing.T) {
	for n := range 4 {
		w := New(5)
		for i := range n {
			w.Add(10 + i)
		}
		w.Reset()
		if last, has := w.Last(); w.Len() != 0 || last != 0 || has {
			t.Errorf("behind Reset of %d: Len %d, Last %d, %v", n, w.Len(), last, has)
		}
		if got := w.Count(0); got != 0 {
			t.Errorf("behind Reset of %d: Count = %d", n, got)
		}
	}
	steps(t, 5, []step{{add, 3, 1}, {add, 4, 2}, {reset, 0, 0}, {count, 4, 0}, {add, 4, 1}, {add, 5, 2}, {count, 9, 1}, {reset, 0, 0}, {reset, 0, 0}, {add, 9, 1}})
	// Behind a Reset there is no last one as which a lower tick would count; but what was ever told stays told.
	steps(t, 5, []step{{add, 20, 1}, {reset, 0, 0}, {add, 17, 1}, {count, 21, 1}, {count, 22, 0}})
	steps(t, 5, []step{{add, 20, 1}, {reset, 0, 0}, {add, 15, 0}, {add, 16, 1}})
	steps(t, 5, []step{{count, 20, 0}, {reset, 0, 0}, {add, 15, 0}, {add, 16, 1}})
}

// P6.1: Rate of ticks in any row.
func TestRate(t *testing.T) {
	for _, x := range []struct {
		l               []int
		span, now, want int
	}{
		{nil, 5, 9, 0}, {[]int{}, 5, 9, 0}, {nil, 0, 0, 0},
		{[]int{9, 1, 5}, 5, 9, 2}, {[]int{1, 5, 9}, 5, 9, 2}, {[]int{5, 9, 1}, 5, 9, 2}, {[]int{9, 5, 1}, 5, 10, 1},
		{[]int{4}, 5, 9, 0}, {[]int{5}, 5, 9, 1}, {[]int{9, 9, 9}, 1, 9, 3}, {[]int{8, 9, 8}, 1, 9, 1},
		{[]int{10, 1, 1000, maxTick}, 5, 9, 3}, {[]int{math.MaxInt}, 1, 0, 1},
		{[]int{9}, 0, 10, 0}, {[]int{9}, 0, 9, 1}, {[]int{9}, -5, 10, 0}, {[]int{9}, math.MinInt, 9, 1},
		{[]int{0}, maxSpan, maxSpan - 1, 1}, {[]int{0}, maxSpan, maxSpan, 0}, {[]int{0, 1}, math.MaxInt, maxSpan, 1}, {[]int{0, 1}, maxSpan + 1, maxSpan, 1},
		{[]int{-1, -100, math.MinInt}, 5, 4, 3}, {[]int{-1, -100, math.MinInt}, 5, 5, 0}, {[]int{0, -9}, 1, -3, 2}, {[]int{0, 1}, 1, math.MinInt, 2},
		{[]int{maxTick + 9, maxTick, maxTick - 1, maxTick - 2}, 2, math.MaxInt, 3}, {[]int{maxTick - 2, maxTick - 1}, 2, maxTick + 1, 1},
	} {
		was := slices.Clone(x.l)
		if got := Rate(x.l, x.span, x.now); got != x.want {
			t.Errorf("Rate(%v, %d, %d) = %d, want %d", x.l, x.span, x.now, got, x.want)
		}
		if !slices.Equal(x.l, was) {
			t.Errorf("Rate changed its ticks to %v, they were %v", x.l, was)
		}
	}
}

// P6.1, R5: Rate of all edges, each beside each, and of many numbers.
func TestRateOfAnyNumbers(t *testing.T) {
	hold := func(l []int, span, now int) {
		if got, want := Rate(l, span, now), plainRate(l, span, now); got != want {
			t.Errorf("Rate(%v, %d, %d) = %d, want %d", l, span, now, got, want)
		}
	}
	for _, span := range edges() {
		for _, now := range edges() {
			hold(edges(), span, now)
			for _, at := range edges() {
				hold([]int{at}, span, now)
			}
		}
	}
	r := rand.New(rand.NewSource(6))
	for range 5000 {
		l := make([]int, r.Intn(9))
		for i := range l {
			l[i] = r.Intn(40) - 5
		}
		hold(l, r.Intn(20)-2, r.Intn(40)-5)
	}
}

// P6.1, R7: a nil window answers 0 and false.
func TestNil(t *testing.T) {
	var w *Window
	for _, at := range edges() {
		a, c, n := w.Add(at), w.Count(at), w.Len()
		w.Reset()
		if last, has := w.Last(); a != 0 || c != 0 || n != 0 || last != 0 || has {
			t.Errorf("nil at %d: Add %d, Count %d, Len %d, Last %d, %v", at, a, c, n, last, has)
		}
	}
}

// P6.1: each row of five calls at few ticks.
func TestAllShortRows(t *testing.T) {
	calls := []call{{reset, 0}}
	for at := range 5 {
		calls = append(calls, call{add, at}, call{count, at})
	}
	row := make([]call, 5)
	var fill func(span, i int)
	fill = func(span, i int) {
		if i == len(row) {
			same(t, span, row)
			return
		}
		for _, c := range calls {
			row[i] = c
			fill(span, i+1)
		}
	}
	for span := 1; span <= 3; span++ {
		fill(span, 0)
	}
}

// anyRow is a row of calls whose ticks are told by a function.
func anyRow(r *rand.Rand, n int, tick func(i int) int) []call {
	row := make([]call, n)
	for i := range row {
		row[i] = call{add, tick(i)}
		switch k := r.Intn(20); {
		case k == 0:
			row[i].what = reset
		case k < 8:
			row[i].what = count
		}
	}
	return row
}

// P6.1, R5: long rows of calls, at ticks that drift on, at ticks of any row, and at edges.
func TestAnyRows(t *testing.T) {
	r := rand.New(rand.NewSource(16))
	all := edges()
	for range 600 {
		span := 1 + r.Intn(12)
		same(t, span, anyRow(r, 80, func(i int) int { return i/2 + r.Intn(8) - 4 }))
		same(t, span, anyRow(r, 30, func(int) int { return r.Intn(30) - 3 }))
		same(t, all[r.Intn(len(all))], anyRow(r, 30, func(int) int { return all[r.Intn(len(all))] }))
		same(t, span, anyRow(r, 30, func(int) int { return maxTick - 20 + r.Intn(25) }))
	}
}

// P6.2: what is once behind stays behind, at whatever tick is asked; and there are no more than were added.
func TestBehindStaysBehind(t *testing.T) {
	r := rand.New(rand.NewSource(62))
	for range 2000 {
		w := New(1 + r.Intn(10))
		added, was := 0, 0
		for _, c := range anyRow(r, 40, func(i int) int { return r.Intn(30 + i) }) {
			got := c.do(w)
			if c.what == add {
				added, was = added+1, was+1
			}
			if got > was || w.Len() > was || w.Len() > added {
				t.Fatalf("%v answers %d, Len %d; there were %d at most, and %d were added", c, got, w.Len(), was, added)
			}
			was = w.Len()
		}
	}
}

// P6.2: those that fell behind at a high tick are none at each lower one, and none of them comes back with an Add.
func TestNoneComesBack(t *testing.T) {
	for high := range 40 {
		for low := range 40 {
			w := New(7)
			for at := range 20 {
				w.Add(at)
			}
			left := w.Count(high)
			if got := w.Count(low); got != w.Len() || low <= high && got != left || got > left {
				t.Errorf("%d at %d, then %d at %d, Len %d", left, high, got, low, w.Len())
			}
			left = w.Len()
			if got := w.Add(low); got > left+1 {
				t.Errorf("%d were left, and one more makes %d", left, got)
			}
		}
	}
}

// R6: two windows have ticks of their own, and asking for Len and Last changes none.
func TestWindowsAreApart(t *testing.T) {
	a, b := New(5), New(5)
	a.Add(3)
	b.Add(1)
	a.Count(50)
	if b.Len() != 1 || b.Count(4) != 1 || b.Add(5) != 2 || a.Len() != 0 {
		t.Errorf("Len %d and %d, want 0 and 2", a.Len(), b.Len())
	}
}

// What is kept is no more than is of late, but for some room; a long row moves it seldom.
func TestWhatIsKept(t *testing.T) {
	w := New(maxSpan)
	for at := range 3 * maxSpan {
		if got := w.Add(at); got != min(at+1, maxSpan) {
			t.Fatalf("Add(%d) = %d", at, got)
		}
	}
	if cap(w.ticks) > 3*maxSpan {
		t.Errorf("room for %d, with %d of late", cap(w.ticks), maxSpan)
	}
	w.Count(4*maxSpan - 2)
	w.Add(4*maxSpan - 2)
	if w.Len() != 2 || cap(w.ticks) > 16 {
		t.Errorf("room for %d, with %d of late", cap(w.ticks), w.Len())
	}
}
