package draw

import (
	"math"
	"math/big"
	"math/rand"
	"testing"

	"hostler/api"
)

const maxTick = 1 << 40

// edges are the numbers at which an answer could turn or wrap.
func edges() []int {
	return []int{
		math.MinInt, math.MinInt + 1, math.MinInt + 2, -1 << 62, -maxTick - 1, -maxTick, -8, -7, -3, -2, -1,
		0, 1, 2, 3, 6, 7, 10, 1<<32 - 1, 1 << 32,
		maxTick/2 - 1, maxTick / 2, maxTick/2 + 1, maxTick - 1, maxTick, maxTick + 1, 2 * maxTick, 2*maxTick + 1,
		1 << 62, math.MaxInt - maxTick, math.MaxInt - 1, math.MaxInt,
	}
}

// The wide calls work without bounds on a number's size, so that they share no wrap with what is tested.
func wide(n int) *big.Int { return big.NewInt(int64(n)) }

func wideCut(n *big.Int) *big.Int {
	if n.Sign() < 0 {
		return wide(0)
	}
	if top := wide(maxTick); n.Cmp(top) > 0 {
		return top
	}
	return n
}

func wideSize(draw int) *big.Int {
	if draw >= 0 {
		return wide(draw)
	}
	return new(big.Int).Sub(wide(-1), wide(draw))
}

func wideBelow(draw int, n *big.Int) *big.Int {
	if n.Sign() < 1 {
		return wide(0)
	}
	return new(big.Int).Mod(wideSize(draw), n)
}

func wideSum(l ...*big.Int) *big.Int {
	sum := wide(0)
	for _, n := range l {
		sum.Add(sum, n)
	}
	return sum
}

func wideSpread(draw, base, jitter int) *big.Int {
	b, j := wideCut(wide(base)), wideCut(wide(jitter))
	least := new(big.Int).Sub(b, j)
	return wideCut(wideSum(least, wideBelow(draw, wideSum(j, j, wide(1)))))
}

func wideBetween(draw, lo, hi int) *big.Int {
	l, h := wideCut(wide(lo)), wideCut(wide(hi))
	if l.Cmp(h) > 0 {
		return l
	}
	many := wideSum(new(big.Int).Sub(h, l), wide(1))
	return wideSum(l, wideBelow(draw, many))
}

func wideLife(draw, now, life, jitter int) *big.Int {
	return wideCut(wideSum(wideCut(wide(now)), wideSpread(draw, life, jitter)))
}

func TestMaxTickIsTheLimit(t *testing.T) {
	if api.MaxTick != maxTick {
		t.Fatalf("MaxTick is %d, want %d", api.MaxTick, maxTick)
	}
}

// P5.1: Size.
func TestSize(t *testing.T) {
	for _, x := range []struct{ draw, want int }{
		{0, 0}, {1, 1}, {2, 2}, {-1, 0}, {-2, 1}, {-3, 2}, {12345, 12345}, {-12345, 12344},
		{maxTick, maxTick}, {-maxTick, maxTick - 1}, {maxTick + 1, maxTick + 1},
		{math.MaxInt, math.MaxInt}, {math.MaxInt - 1, math.MaxInt - 1},
		{math.MinInt, math.MaxInt}, {math.MinInt + 1, math.MaxInt - 1},
	} {
		if got := Size(x.draw); got != x.want {
			t.Errorf("Size(%d) = %d, want %d", x.draw, got, x.want)
		}
	}
}

// P5.1: Below, and 0 where n is below 1.
func TestBelow(t *testing.T) {
	for _, x := range []struct{ draw, n, want int }{
		{7, 0, 0}, {7, -1, 0}, {7, -3, 0}, {7, math.MinInt, 0}, {-7, 0, 0}, {math.MinInt, -1, 0}, {math.MaxInt, 0, 0},
		{0, 1, 0}, {7, 1, 0}, {-7, 1, 0}, {math.MinInt, 1, 0}, {math.MaxInt, 1, 0},
		{0, 3, 0}, {1, 3, 1}, {2, 3, 2}, {3, 3, 0}, {4, 3, 1},
		{-1, 3, 0}, {-2, 3, 1}, {-3, 3, 2}, {-4, 3, 0}, {-5, 3, 1},
		{math.MaxInt, 10, 7}, {math.MinInt, 10, 7}, {math.MinInt + 1, 10, 6}, {math.MaxInt, 2, 1},
		{math.MaxInt, math.MaxInt, 0}, {math.MinInt, math.MaxInt, 0}, {math.MaxInt - 1, math.MaxInt, math.MaxInt - 1}, {5, math.MaxInt, 5},
		{maxTick + 5, maxTick, 5}, {maxTick + 5, maxTick + 6, maxTick + 5},
	} {
		if got := Below(x.draw, x.n); got != x.want {
			t.Errorf("Below(%d, %d) = %d, want %d", x.draw, x.n, got, x.want)
		}
	}
}

// P5.1: Spread; the chapter's examples are its first rows.
func TestSpread(t *testing.T) {
	for _, x := range []struct{ draw, base, jitter, want int }{
		{0, 10, 3, 7}, {6, 10, 3, 13}, {7, 10, 3, 7},
		{3, 10, 3, 10}, {-1, 10, 3, 7}, {-7, 10, 3, 13}, {-8, 10, 3, 7},
		{0, 10, 0, 10}, {9, 10, 0, 10}, {math.MinInt, 10, 0, 10}, {5, 0, 0, 0},
		// A jitter above the base: the sum below 0 is cut, the draws above it are not moved.
		{0, 2, 3, 0}, {1, 2, 3, 0}, {2, 2, 3, 1}, {5, 2, 3, 4}, {6, 2, 3, 5}, {7, 2, 3, 0},
		{0, 0, 5, 0}, {5, 0, 5, 0}, {6, 0, 5, 1}, {10, 0, 5, 5},
		// Below 0 both are 0.
		{0, -10, 3, 0}, {3, -10, 3, 0}, {4, -10, 3, 1}, {6, -10, 3, 3}, {0, 10, -3, 10}, {6, 10, -3, 10}, {6, -10, -3, 0},
		{0, math.MinInt, math.MinInt, 0}, {4, math.MinInt, 3, 1}, {6, 10, math.MinInt, 10},
		// At MaxTick and past it.
		{0, maxTick, 1, maxTick - 1}, {1, maxTick, 1, maxTick}, {2, maxTick, 1, maxTick}, {3, maxTick, 1, maxTick - 1},
		{0, maxTick + 9, 1, maxTick - 1}, {0, math.MaxInt, 1, maxTick - 1}, {6, maxTick - 1, 3, maxTick}, {4, maxTick - 1, 3, maxTick}, {3, maxTick - 1, 3, maxTick - 1},
		{0, maxTick, maxTick, 0}, {5, maxTick, maxTick, 5}, {maxTick, maxTick, maxTick, maxTick}, {2 * maxTick, maxTick, maxTick, maxTick}, {2*maxTick + 1, maxTick, maxTick, 0},
		{5, maxTick, math.MaxInt, 5}, {5, math.MaxInt, math.MaxInt, 5}, {2*maxTick + 3, math.MaxInt, math.MaxInt, 2},
		{maxTick, 0, maxTick + 1, 0}, {maxTick + 1, 0, maxTick + 1, 1}, {2 * maxTick, 0, math.MaxInt, maxTick},
	} {
		if got := Spread(x.draw, x.base, x.jitter); got != x.want {
			t.Errorf("Spread(%d, %d, %d) = %d, want %d", x.draw, x.base, x.jitter, got, x.want)
		}
	}
}

// P5.1: Between.
func TestBetween(t *testing.T) {
	for _, x := range []struct{ draw, lo, hi, want int }{
		{0, 3, 5, 3}, {1, 3, 5, 4}, {2, 3, 5, 5}, {3, 3, 5, 3}, {7, 3, 5, 4}, {-1, 3, 5, 3}, {-3, 3, 5, 5}, {-4, 3, 5, 3},
		{7, 5, 3, 5}, {7, 5, 4, 5}, {7, maxTick, 0, maxTick}, {1, 1, 0, 1}, {math.MinInt, 5, 3, 5},
		{7, 5, 5, 5}, {-7, 5, 5, 5}, {7, 0, 0, 0}, {1, maxTick, maxTick, maxTick},
		{1, -5, 1, 1}, {2, -5, 1, 0}, {7, -5, -9, 0}, {7, -9, -5, 0}, {7, 5, -5, 5},
		{1, maxTick - 1, maxTick + 5, maxTick}, {2, maxTick - 1, maxTick + 5, maxTick - 1}, {7, maxTick + 9, maxTick + 5, maxTick}, {7, maxTick + 5, maxTick + 9, maxTick}, {7, maxTick + 5, 2, maxTick},
		{maxTick, 0, maxTick, maxTick}, {maxTick + 1, 0, maxTick, 0}, {maxTick, math.MinInt, math.MaxInt, maxTick}, {maxTick + 3, math.MinInt, math.MaxInt, 2},
		{9, math.MaxInt, math.MinInt, maxTick},
	} {
		if got := Between(x.draw, x.lo, x.hi); got != x.want {
			t.Errorf("Between(%d, %d, %d) = %d, want %d", x.draw, x.lo, x.hi, got, x.want)
		}
	}
}

// P5.1: Life.
func TestLife(t *testing.T) {
	for _, x := range []struct{ draw, now, life, jitter, want int }{
		{0, 100, 10, 3, 107}, {1, 100, 10, 1, 110}, {6, 100, 10, 3, 113}, {7, 100, 10, 3, 107}, {-7, 100, 10, 3, 113},
		{0, 100, 2, 3, 100}, {5, 100, 2, 3, 104}, {5, 100, 0, 0, 100}, {0, -100, 10, 3, 7}, {0, math.MinInt, 10, 3, 7}, {0, 100, -10, -3, 100},
		{0, maxTick - 7, 10, 3, maxTick}, {0, maxTick - 8, 10, 3, maxTick - 1}, {1, maxTick - 8, 10, 3, maxTick}, {2, maxTick - 8, 10, 3, maxTick},
		{0, maxTick, 10, 3, maxTick}, {0, maxTick, 0, 0, maxTick}, {0, maxTick + 1, 10, 3, maxTick}, {6, math.MaxInt, 10, 3, maxTick},
		{0, 5, maxTick, 1, maxTick}, {0, 0, maxTick, 1, maxTick - 1}, {0, 1, maxTick, 1, maxTick}, {0, 5, maxTick, maxTick, 5}, {2 * maxTick, 5, maxTick, maxTick, maxTick},
		{math.MaxInt, math.MaxInt, math.MaxInt, math.MaxInt, maxTick}, {math.MinInt, math.MinInt, math.MinInt, math.MinInt, 0},
	} {
		if got := Life(x.draw, x.now, x.life, x.jitter); got != x.want {
			t.Errorf("Life(%d, %d, %d, %d) = %d, want %d", x.draw, x.now, x.life, x.jitter, got, x.want)
		}
	}
}

// same holds all calls of four numbers against the wide ones.
func same(t *testing.T, draw, a, b, c int) {
	t.Helper()
	if got, want := Size(draw), wideSize(draw); wide(got).Cmp(want) != 0 {
		t.Errorf("Size(%d) = %d, want %d", draw, got, want)
	}
	if got, want := Below(draw, a), wideBelow(draw, wide(a)); wide(got).Cmp(want) != 0 {
		t.Errorf("Below(%d, %d) = %d, want %d", draw, a, got, want)
	}
	if got, want := Spread(draw, a, b), wideSpread(draw, a, b); wide(got).Cmp(want) != 0 {
		t.Errorf("Spread(%d, %d, %d) = %d, want %d", draw, a, b, got, want)
	}
	if got, want := Between(draw, a, b), wideBetween(draw, a, b); wide(got).Cmp(want) != 0 {
		t.Errorf("Between(%d, %d, %d) = %d, want %d", draw, a, b, got, want)
	}
	if got, want := Life(draw, a, b, c), wideLife(draw, a, b, c); wide(got).Cmp(want) != 0 {
		t.Errorf("Life(%d, %d, %d, %d) = %d, want %d", draw, a, b, c, got, want)
	}
}

// P5.1, R5: of all edges, each beside each.
func TestAllEdges(t *testing.T) {
	for _, draw := range edges() {
		for i, a := range edges() {
			for k, b := range edges() {
				same(t, draw, a, b, edges()[(i+k)%len(edges())])
			}
		}
	}
}

// P5.1, R5: of numbers of any size.
func TestAnyNumbers(t *testing.T) {
	r := rand.New(rand.NewSource(5))
	any := func() int { return int(r.Uint64()) >> r.Intn(64) }
	for range 20000 {
		same(t, any(), any(), any(), any())
	}
}

// told gathers what the draws from -n to n answer.
func told(n int, ask func(draw int) int) map[int]int {
	all := map[int]int{}
	for draw := -n; draw <= n; draw++ {
		all[ask(draw)]++
	}
	return all
}

// justFrom asks that those told are the numbers from lo to hi, each of them and no other.
func justFrom(t *testing.T, what string, all map[int]int, lo, hi int) {
	t.Helper()
	for n := lo; n <= hi; n++ {
		if all[n] == 0 {
			t.Errorf("%s: %d is no draw's", what, n)
		}
	}
	if len(all) != hi-lo+1 {
		t.Errorf("%s: %d numbers, want those from %d to %d", what, len(all), lo, hi)
	}
}

// P5.2: Spread tells all numbers within its bounds, and no other.
func TestSpreadFillsItsBounds(t *testing.T) {
	for _, base := range []int{-1, 0, 1, 2, 5, 9, 40, maxTick - 9, maxTick - 5, maxTick - 1, maxTick, maxTick + 1, math.MaxInt} {
		for _, jitter := range []int{-1, 0, 1, 2, 5, 9, 20} {
			b, j := min(max(base, 0), maxTick), max(jitter, 0)
			all := told(100, func(draw int) int { return Spread(draw, base, jitter) })
			justFrom(t, "Spread", all, max(b-j, 0), min(b+j, maxTick))
		}
	}
}

// P5.2: each number within wide bounds is some draw's too: that of its distance from the least.
func TestSpreadReachesFarNumbers(t *testing.T) {
	for _, x := range [][2]int{{maxTick, maxTick}, {maxTick / 2, maxTick / 2}, {3, maxTick}, {maxTick - 3, maxTick / 4}} {
		for _, want := range edges() {
			if want < max(x[0]-x[1], 0) || want > min(x[0]+x[1], maxTick) {
				continue
			}
			if got := Spread(want-(x[0]-x[1]), x[0], x[1]); got != want {
				t.Errorf("Spread about %d by %d: %d, want %d", x[0], x[1], got, want)
			}
		}
	}
}

// P5.2: so do Between and Life.
func TestBetweenAndLifeFillTheirBounds(t *testing.T) {
	for _, lo := range []int{-3, 0, 1, 5, 9, maxTick - 7, maxTick, maxTick + 2} {
		for _, n := range []int{0, 1, 2, 7, 30} {
			all := told(100, func(draw int) int { return Between(draw, lo, lo+n) })
			justFrom(t, "Between", all, min(max(lo, 0), maxTick), min(max(lo+n, 0), maxTick))
		}
	}
	for _, now := range []int{-3, 0, 1, 5, maxTick - 20, maxTick - 12, maxTick - 9, maxTick, maxTick + 1} {
		all := told(100, func(draw int) int { return Life(draw, now, 10, 4) })
		from := min(max(now, 0), maxTick)
		justFrom(t, "Life", all, min(from+6, maxTick), min(from+14, maxTick))
	}
}

// P5.2: each is as many draws' as each other, in a row of draws that is whole.
func TestBelowIsEven(t *testing.T) {
	for n := 1; n <= 20; n++ {
		all := map[int]int{}
		for draw := -3 * n; draw < 3*n; draw++ {
			all[Below(draw, n)]++
		}
		for k := range n {
			if all[k] != 6 {
				t.Errorf("Below %d: %d is told %d times, want 6", n, k, all[k])
			}
		}
	}
}

// R6: nothing is kept: what was asked ahead of it changes no answer.
func TestNothingIsKept(t *testing.T) {
	want := [5]int{Size(-9), Below(-9, 4), Spread(-9, 10, 3), Between(-9, 3, 6), Life(-9, 50, 10, 3)}
	for _, n := range edges() {
		same(t, n, n, n, n)
	}
	if got := [5]int{Size(-9), Below(-9, 4), Spread(-9, 10, 3), Between(-9, 3, 6), Life(-9, 50, 10, 3)}; got != want {
		t.Errorf("%v, want %v", got, want)
	}
}
