package sat

import (
	"math"
	"math/big"
	"slices"
	"testing"

	"hostler/api"
)

const maxTick = 1 << 40

// edges are the numbers at which an answer could turn or wrap.
func edges() []int {
	return []int{
		math.MinInt, math.MinInt + 1, -1 << 62, -maxTick - 1, -maxTick, -maxTick + 1, -2, -1,
		0, 1, 2, 7, 1<<31 - 1, 1 << 31, 1<<32 - 1, 1 << 32,
		maxTick/2 - 1, maxTick / 2, maxTick/2 + 1, maxTick - 1, maxTick, maxTick + 1, 2 * maxTick,
		1 << 62, math.MaxInt - maxTick, math.MaxInt - 1, math.MaxInt,
	}
}

// wideCut cuts without bounds on the number's size, so that it shares no wrap with what is tested.
func wideCut(n *big.Int) *big.Int {
	if n.Sign() < 0 {
		return big.NewInt(0)
	}
	if top := big.NewInt(maxTick); n.Cmp(top) > 0 {
		return top
	}
	return n
}

func wide(n int) *big.Int { return wideCut(big.NewInt(int64(n))) }

func wideAdd(a, b int) int {
	return int(wideCut(new(big.Int).Add(wide(a), wide(b))).Int64())
}

func wideSub(a, b int) int {
	return int(wideCut(new(big.Int).Sub(wide(a), wide(b))).Int64())
}

func TestMaxTickIsTheLimit(t *testing.T) {
	if api.MaxTick != maxTick {
		t.Fatalf("MaxTick is %d, want %d", api.MaxTick, maxTick)
	}
}

// P1.1: Cut.
func TestCut(t *testing.T) {
	for _, x := range []struct{ n, want int }{
		{math.MinInt, 0}, {-maxTick, 0}, {-1, 0}, {0, 0}, {1, 1}, {12345, 12345},
		{maxTick - 1, maxTick - 1}, {maxTick, maxTick}, {maxTick + 1, maxTick}, {1 << 62, maxTick}, {math.MaxInt, maxTick},
	} {
		if got := Cut(x.n); got != x.want {
			t.Errorf("Cut(%d) = %d, want %d", x.n, got, x.want)
		}
	}
}

// P1.1: Add.
func TestAdd(t *testing.T) {
	for _, x := range []struct{ a, b, want int }{
		{0, 0, 0}, {1, 2, 3}, {-5, 2, 2}, {2, -5, 2}, {-5, -5, 0},
		{maxTick, 0, maxTick}, {maxTick, 1, maxTick}, {1, maxTick, maxTick}, {maxTick - 1, 1, maxTick}, {maxTick - 2, 1, maxTick - 1},
		{maxTick, -1, maxTick}, {maxTick + 5, -3, maxTick}, {maxTick, maxTick, maxTick},
		{1 << 62, 1 << 62, maxTick}, {math.MaxInt, 1, maxTick}, {math.MaxInt, math.MaxInt, maxTick},
		{math.MinInt, math.MinInt, 0}, {math.MinInt, -1, 0}, {math.MinInt, 7, 7}, {math.MinInt, math.MaxInt, maxTick},
	} {
		if got := Add(x.a, x.b); got != x.want {
			t.Errorf("Add(%d, %d) = %d, want %d", x.a, x.b, got, x.want)
		}
	}
}

// P1.1: Sub.
func TestSub(t *testing.T) {
	for _, x := range []struct{ a, b, want int }{
		{0, 0, 0}, {5, 3, 2}, {3, 5, 0}, {3, 3, 0}, {5, -3, 5}, {-5, 3, 0}, {-3, -5, 0},
		{maxTick, 1, maxTick - 1}, {maxTick + 9, 1, maxTick - 1}, {maxTick + 9, maxTick + 1, 0}, {maxTick, maxTick - 1, 1},
		{1 << 62, 1, maxTick - 1}, {math.MaxInt, math.MinInt, maxTick}, {math.MinInt, math.MaxInt, 0}, {math.MinInt, 1, 0}, {0, math.MinInt, 0},
	} {
		if got := Sub(x.a, x.b); got != x.want {
			t.Errorf("Sub(%d, %d) = %d, want %d", x.a, x.b, got, x.want)
		}
	}
}

// P1.1: Past.
func TestPast(t *testing.T) {
	for _, x := range []struct {
		now, deadline int
		want          bool
	}{
		{3, 3, true}, {4, 3, true}, {2, 3, false}, {0, 0, true}, {0, 1, false},
		{-1, 0, true}, {-9, -1, true}, {-1, 1, false}, {0, math.MinInt, true}, {math.MinInt, 0, true}, {math.MinInt, 1, false},
		{maxTick, maxTick, true}, {maxTick - 1, maxTick, false}, {maxTick, maxTick + 1, true}, {maxTick, 1 << 62, true},
		{maxTick - 1, math.MaxInt, false}, {math.MaxInt, math.MaxInt, true}, {math.MinInt, math.MaxInt, false},
	} {
		if got := Past(x.now, x.deadline); got != x.want {
			t.Errorf("Past(%d, %d) = %v, want %v", x.now, x.deadline, got, x.want)
		}
	}
}

// P1.1: Left.
func TestLeft(t *testing.T) {
	for _, x := range []struct{ now, deadline, want int }{
		{3, 10, 7}, {10, 3, 0}, {3, 3, 0}, {-4, 10, 10}, {10, -4, 0}, {0, maxTick, maxTick}, {1, maxTick + 1, maxTick - 1},
		{math.MinInt, math.MaxInt, maxTick}, {math.MaxInt, math.MinInt, 0}, {maxTick, math.MaxInt, 0},
	} {
		if got := Left(x.now, x.deadline); got != x.want {
			t.Errorf("Left(%d, %d) = %d, want %d", x.now, x.deadline, got, x.want)
		}
	}
}

// P1.1: Sum.
func TestSum(t *testing.T) {
	for _, x := range []struct {
		l    []int
		want int
	}{
		{nil, 0}, {[]int{}, 0}, {[]int{5}, 5}, {[]int{-5}, 0}, {[]int{1, 2, 3}, 6},
		{[]int{3, -5}, 3}, {[]int{-5, 3}, 3}, {[]int{4, -100, 5}, 9},
		{[]int{maxTick}, maxTick}, {[]int{maxTick + 1}, maxTick}, {[]int{maxTick, 1}, maxTick}, {[]int{maxTick, 1, -1}, maxTick},
		{[]int{maxTick - 3, 1, 1}, maxTick - 1},
		{[]int{math.MaxInt, math.MaxInt, math.MaxInt}, maxTick}, {[]int{math.MinInt, math.MinInt}, 0}, {[]int{math.MaxInt, math.MinInt}, maxTick},
		{[]int{math.MinInt, 4, math.MinInt}, 4},
	} {
		if got := Sum(x.l...); got != x.want {
			t.Errorf("Sum(%v) = %d, want %d", x.l, got, x.want)
		}
	}
	if got := Sum(); got != 0 {
		t.Errorf("Sum() = %d, want 0", got)
	}
}

// P1.1: a long row of great numbers, whose plain sum would wrap many times.
func TestSumOfMany(t *testing.T) {
	if got := Sum(slices.Repeat([]int{1 << 62}, 1000)...); got != maxTick {
		t.Errorf("Sum of great numbers = %d, want %d", got, maxTick)
	}
	if got := Sum(slices.Repeat([]int{3}, 100000)...); got != 300000 {
		t.Errorf("Sum of 100000 threes = %d, want 300000", got)
	}
}

// R4: what is handed in is not changed.
func TestSumLeavesItsNumbers(t *testing.T) {
	l := []int{-5, 3, maxTick + 1, math.MinInt}
	was := slices.Clone(l)
	Sum(l...)
	if !slices.Equal(l, was) {
		t.Errorf("Sum changed its numbers to %v, they were %v", l, was)
	}
}

// P1.1: all pairs of edges, held against numbers without bounds.
func TestPairsOfEdges(t *testing.T) {
	for _, a := range edges() {
		for _, b := range edges() {
			if got, want := Add(a, b), wideAdd(a, b); got != want {
				t.Errorf("Add(%d, %d) = %d, want %d", a, b, got, want)
			}
			if got, want := Sum(a, b), wideAdd(a, b); got != want {
				t.Errorf("Sum(%d, %d) = %d, want %d", a, b, got, want)
			}
			if got, want := Sub(a, b), wideSub(a, b); got != want {
				t.Errorf("Sub(%d, %d) = %d, want %d", a, b, got, want)
			}
			if got, want := Left(a, b), wideSub(b, a); got != want {
				t.Errorf("Left(%d, %d) = %d, want %d", a, b, got, want)
			}
			if got, want := Past(a, b), wide(a).Cmp(wide(b)) >= 0; got != want {
				t.Errorf("Past(%d, %d) = %v, want %v", a, b, got, want)
			}
		}
	}
}

// P1.1: a clock begins at its tick, cut, and Go adds as Add does.
func TestClock(t *testing.T) {
	for _, at := range edges() {
		if got, want := New(at).Now(), Cut(at); got != want {
			t.Errorf("New(%d).Now() = %d, want %d", at, got, want)
		}
		for _, n := range edges() {
			c := New(at)
			want := wideAdd(at, n)
			if got := c.Go(n); got != want {
				t.Errorf("New(%d).Go(%d) = %d, want %d", at, n, got, want)
			}
			if got := c.Now(); got != want {
				t.Errorf("New(%d) behind Go(%d): Now() = %d, want %d", at, n, got, want)
			}
		}
	}
}

// P1.1: a row of calls, each of which the next one builds on.
func TestClockInARow(t *testing.T) {
	c := New(-3)
	for i, x := range []struct{ n, want int }{
		{0, 0}, {5, 5}, {-9, 5}, {7, 12}, {math.MinInt, 12}, {maxTick - 13, maxTick - 1}, {1, maxTick}, {1, maxTick}, {-1, maxTick}, {math.MaxInt, maxTick}, {math.MinInt, maxTick},
	} {
		if got := c.Go(x.n); got != x.want || c.Now() != x.want {
			t.Fatalf("call %d: Go(%d) = %d, Now() = %d, want %d", i, x.n, got, c.Now(), x.want)
		}
	}
}

// P1.1, R6: two clocks keep a tick each, and asking one moves none.
func TestClocksAreApart(t *testing.T) {
	a, b := New(1), New(1)
	a.Go(4)
	if a.Now() != 5 || a.Now() != 5 || b.Now() != 1 {
		t.Errorf("ticks are %d and %d, want 5 and 1", a.Now(), b.Now())
	}
}

// P1.1, R7: a nil clock answers 0, and stays so.
func TestNilClock(t *testing.T) {
	var c *Clock
	for _, n := range edges() {
		if got := c.Go(n); got != 0 {
			t.Errorf("Go(%d) of nil = %d, want 0", n, got)
		}
		if got := c.Now(); got != 0 {
			t.Errorf("Now() of nil behind Go(%d) = %d, want 0", n, got)
		}
	}
}

// P1.2: a clock never goes back, never past MaxTick, and what is due stays due.
func TestClockNeverGoesBack(t *testing.T) {
	for _, at := range edges() {
		c := New(at)
		last := c.Now()
		due := map[int]bool{}
		for _, n := range edges() {
			now := c.Go(n)
			if now < last || now < 0 || now > maxTick {
				t.Fatalf("from %d, Go(%d): the tick is %d, it was %d", at, n, now, last)
			}
			last = now
			for _, deadline := range edges() {
				past := Past(now, deadline)
				if due[deadline] && !past {
					t.Fatalf("from %d, Go(%d): %d was due, and is not at %d", at, n, deadline, now)
				}
				if past != (Left(now, deadline) == 0) {
					t.Fatalf("at %d: Past of %d is %v, but %d are left", now, deadline, past, Left(now, deadline))
				}
				due[deadline] = past
			}
		}
	}
}

// P1.2: at MaxTick every deadline is due, however great.
func TestAllIsDueAtMaxTick(t *testing.T) {
	c := New(maxTick - 1)
	if Past(c.Now(), math.MaxInt) {
		t.Error("a deadline at MaxTick is due a tick ahead of it")
	}
	c.Go(1)
	for _, deadline := range edges() {
		if !Past(c.Now(), deadline) || Left(c.Now(), deadline) != 0 {
			t.Errorf("at MaxTick the deadline %d is not due", deadline)
		}
	}
}
