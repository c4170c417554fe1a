package backoff

import (
	"math"
	"math/big"
	"math/rand"
	"testing"

	"hostler/api"
)

const (
	maxTick = 1 << 40
	maxSpan = 1 << 20
)

func TestLimits(t *testing.T) {
	if api.MaxTick != maxTick || api.MaxSpan != maxSpan {
		t.Fatalf("MaxTick is %d and MaxSpan %d", api.MaxTick, api.MaxSpan)
	}
}

// bases are the numbers at which a base's answer could turn.
func bases() []int {
	return []int{
		math.MinInt, math.MinInt + 1, -maxSpan, -1, 0, 1, 2, 3, 4, 5, 7, 8, 10, 1000,
		maxSpan/2 - 1, maxSpan / 2, maxSpan/2 + 1, maxSpan - 1, maxSpan, maxSpan + 1, 2 * maxSpan,
		maxTick, 1 << 62, math.MaxInt - 1, math.MaxInt,
	}
}

// ticks are the numbers at which a tick's answer could turn.
func ticks() []int {
	return []int{
		math.MinInt, -maxTick, -1, 0, 1, 2, 49, 50, 1000, maxSpan,
		maxTick - maxSpan - maxSpan/4, maxTick - maxSpan, maxTick - 20, maxTick - 10, maxTick - 1, maxTick, maxTick + 1, math.MaxInt,
	}
}

// draws are draws of any size and sign.
func draws() []int {
	return []int{
		math.MinInt, math.MinInt + 1, -maxTick, -6, -5, -4, -3, -2, -1, 0, 1, 2, 3, 4, 5, 6, 7,
		maxSpan/4 - 1, maxSpan / 4, maxSpan / 2, maxSpan/2 + 1, maxTick, math.MaxInt - 1, math.MaxInt,
	}
}

// wide is a number without bounds on its size, so that the model shares no wrap with what is tested.
func wide(n int) *big.Int { return big.NewInt(int64(n)) }

// within is the nearest number from lo to hi, as an int.
func within(n *big.Int, lo, hi int) int {
	if n.Cmp(wide(lo)) < 0 {
		return lo
	}
	if n.Cmp(wide(hi)) > 0 {
		return hi
	}
	return int(n.Int64())
}

// plainWait is the base by the power of two, cut at the end.
func plainWait(base, fails int) int {
	if fails < 1 {
		return 0
	}
	from := wide(within(wide(base), 1, maxSpan))
	return within(from.Lsh(from, uint(min(fails-1, 100))), 1, maxSpan)
}

// plainLife is the chapter's words of layers 1 and 5: the tick, and the wait spread by its quarter.
func plainLife(drawn, now, wait int) int {
	size := wide(drawn)
	if drawn < 0 {
		size = size.Sub(wide(-1), size)
	}
	quarter := wait / 4
	over := new(big.Int).Mod(size, wide(2*quarter+1))
	spread := within(over.Add(over, wide(wait-quarter)), 0, maxTick)
	return within(wide(within(wide(now), 0, maxTick)+spread), 0, maxTick)
}

// plain is a backoff as the chapter says it: how often it failed, and at what, kept whole.
type plain struct {
	base  int
	fails [][2]int // each one's tick and draw
}

func (p *plain) until() int {
	if len(p.fails) == 0 {
		return 0
	}
	last := p.fails[len(p.fails)-1]
	return plainLife(last[1], last[0], plainWait(p.base, len(p.fails)))
}

// hold asks all that can be asked, and that asking turns nothing.
func hold(t *testing.T, b *Backoff, p *plain) {
	t.Helper()
	for range 2 {
		if got, want := b.Until(), p.until(); got != want {
			t.Fatalf("base %d, fails %v: Until %d, want %d", p.base, p.fails, got, want)
		}
		if got, want := b.Fails(), len(p.fails); got != want {
			t.Fatalf("base %d, fails %v: Fails %d, want %d", p.base, p.fails, got, want)
		}
		until := p.until()
		for _, now := range append(ticks(), until-1, until, until+1) {
			want := within(wide(now), 0, maxTick) >= until
			if got := b.May(now); got != want {
				t.Fatalf("base %d, fails %v: May(%d) %v, want %v", p.base, p.fails, now, got, want)
			}
		}
	}
}

// fail tells both of a fail, and holds what is answered, and what is kept.
func fail(t *testing.T, b *Backoff, p *plain, now, drawn int) {
	t.Helper()
	p.fails = append(p.fails, [2]int{now, drawn})
	if got, want := b.Fail(now, drawn), p.until(); got != want {
		t.Fatalf("base %d, fails %v: Fail %d, want %d", p.base, p.fails, got, want)
	}
	hold(t, b, p)
}

// ok tells both that it came through.
func ok(t *testing.T, b *Backoff, p *plain) {
	t.Helper()
	b.OK()
	p.fails = nil
	hold(t, b, p)
}

// P7.1: Wait; the chapter's example is its first row.
func TestWait(t *testing.T) {
	for _, x := range []struct{ base, fails, want int }{
		{8, 1, 8}, {8, 2, 16}, {8, 3, 32},
		{8, 0, 0}, {8, -1, 0}, {8, math.MinInt, 0}, {0, 0, 0}, {-1, -1, 0}, {maxSpan, 0, 0}, {math.MaxInt, 0, 0}, {math.MinInt, math.MinInt, 0},
		{1, 1, 1}, {1, 2, 2}, {1, 3, 4}, {0, 1, 1}, {0, 3, 4}, {-7, 3, 4}, {math.MinInt, 1, 1}, {math.MinInt, 2, 2},
		{1, 20, maxSpan / 2}, {1, 21, maxSpan}, {1, 22, maxSpan}, {0, 20, maxSpan / 2}, {0, 21, maxSpan},
		{8, 17, maxSpan / 2}, {8, 18, maxSpan}, {8, 19, maxSpan},
		{3, 19, 3 << 18}, {3, 20, maxSpan}, {5, 18, 5 << 17}, {5, 19, maxSpan},
		{1, 62, maxSpan}, {1, 63, maxSpan}, {1, 64, maxSpan}, {1, 65, maxSpan}, {3, 63, maxSpan}, {8, 1 << 32, maxSpan}, {8, 1<<32 + 1, maxSpan}, {8, math.MaxInt - 1, maxSpan}, {8, math.MaxInt, maxSpan}, {math.MinInt, math.MaxInt, maxSpan},
		{maxSpan/2 - 1, 1, maxSpan/2 - 1}, {maxSpan/2 - 1, 2, maxSpan - 2}, {maxSpan/2 - 1, 3, maxSpan}, {maxSpan / 2, 2, maxSpan}, {maxSpan/2 + 1, 2, maxSpan},
		{maxSpan - 1, 1, maxSpan - 1}, {maxSpan - 1, 2, maxSpan}, {maxSpan, 1, maxSpan}, {maxSpan, 2, maxSpan}, {maxSpan, math.MaxInt, maxSpan},
		{maxSpan + 1, 1, maxSpan}, {maxSpan + 1, 9, maxSpan}, {math.MaxInt, 1, maxSpan}, {math.MaxInt, 2, maxSpan}, {math.MaxInt, math.MaxInt, maxSpan},
	} {
		if got := Wait(x.base, x.fails); got != x.want {
			t.Errorf("Wait(%d, %d) = %d, want %d", x.base, x.fails, got, x.want)
		}
	}
}

// P7.1, R5: Wait of all edges, and of numbers of any size.
func TestWaitOfAny(t *testing.T) {
	for _, base := range bases() {
		for fails := -3; fails <= 70; fails++ {
			if got, want := Wait(base, fails), plainWait(base, fails); got != want {
				t.Errorf("Wait(%d, %d) = %d, want %d", base, fails, got, want)
			}
		}
	}
	r := rand.New(rand.NewSource(7))
	any := func() int { return int(r.Uint64()) >> r.Intn(64) }
	for range 20000 {
		base, fails := any(), any()
		if got, want := Wait(base, fails), plainWait(base, fails); got != want {
			t.Errorf("Wait(%d, %d) = %d, want %d", base, fails, got, want)
		}
	}
}

// P7.1: Fail at a new one.
func TestFirstFail(t *testing.T) {
	for _, x := range []struct{ base, now, draw, want int }{
		{8, 100, 0, 106}, {8, 100, 2, 108}, {8, 100, 4, 110}, {8, 100, 5, 106}, {8, 100, -1, 106}, {8, 100, -5, 110}, {8, 100, -6, 106},
		// A wait below 4 has no quarter, one of 7 has 1: what is over is left out.
		{1, 100, 9, 101}, {2, 100, 9, 102}, {3, 100, 9, 103}, {3, 100, math.MinInt, 103}, {4, 100, 0, 103}, {4, 100, 2, 105}, {7, 100, 0, 106}, {7, 100, 2, 108}, {7, 100, 3, 106},
		{0, 100, 9, 101}, {-8, 100, 9, 101}, {math.MinInt, 100, 9, 101},
		{maxSpan, 0, 0, maxSpan - maxSpan/4}, {maxSpan, 0, maxSpan / 2, maxSpan + maxSpan/4}, {maxSpan, 0, maxSpan/2 + 1, maxSpan - maxSpan/4},
		{maxSpan + 1, 0, maxSpan / 2, maxSpan + maxSpan/4}, {math.MaxInt, 0, 0, maxSpan - maxSpan/4},
		{8, 0, 0, 6}, {8, -1, 0, 6}, {8, math.MinInt, 0, 6},
		{8, maxTick - 7, 0, maxTick - 1}, {8, maxTick - 6, 0, maxTick}, {8, maxTick - 7, 4, maxTick}, {8, maxTick, 0, maxTick}, {8, maxTick + 1, 0, maxTick}, {8, math.MaxInt, 4, maxTick},
	} {
		b := New(x.base)
		if got := b.Fail(x.now, x.draw); got != x.want || b.Until() != x.want || b.Fails() != 1 {
			t.Errorf("New(%d).Fail(%d, %d) = %d, Until %d, Fails %d, want %d", x.base, x.now, x.draw, got, b.Until(), b.Fails(), x.want)
		}
	}
}

// P7.1: a new one has no fails, and may be tried at any tick.
func TestNew(t *testing.T) {
	for _, base := range bases() {
		hold(t, New(base), &plain{base: base})
	}
	if !New(8).May(0) || !New(8).May(-1) || !New(8).May(math.MaxInt) {
		t.Error("a new one may not be tried")
	}
}

// P7.1: the chapter's example, with the draws at which nothing is spread; then it comes through.
func TestExample(t *testing.T) {
	b := New(8)
	for i, wait := range []int{8, 16, 32} {
		now := 100 * i
		if got := b.Fail(now, wait/4); got != now+wait || b.May(now+wait-1) || !b.May(now+wait) || b.Fails() != i+1 {
			t.Errorf("fail %d: %d, want %d", i, got, now+wait)
		}
	}
	b.OK()
	if b.Until() != 0 || b.Fails() != 0 || !b.May(0) {
		t.Error("it did not come through")
	}
	if got := b.Fail(100, 2); got != 108 || b.Fails() != 1 {
		t.Errorf("a fail behind it: %d", got)
	}
}

// P7.1: ticks that rise, stay and fall: what it may be tried from hangs on the last fail alone.
func TestTicksOfFails(t *testing.T) {
	for _, x := range []struct{ ticks, want []int }{
		{[]int{10, 20, 40}, []int{13, 26, 52}},
		{[]int{10, 10, 10}, []int{13, 16, 22}},
		{[]int{1000, 500, 0}, []int{1003, 506, 12}},
		{[]int{maxTick, 0, -1}, []int{maxTick, 6, 12}},
		{[]int{-5, maxTick + 1, 7}, []int{3, maxTick, 19}},
	} {
		b := New(4)
		for i, now := range x.ticks {
			if got := b.Fail(now, 0); got != x.want[i] {
				t.Errorf("fails at %v: the one of place %d answers %d, want %d", x.ticks, i, got, x.want[i])
			}
		}
	}
}

// P7.1: all edges of one fail, and of a second one behind it.
func TestAllEdges(t *testing.T) {
	for _, base := range bases() {
		for i, now := range ticks() {
			for k, drawn := range draws() {
				b, p := New(base), &plain{base: base}
				fail(t, b, p, now, drawn)
				fail(t, b, p, ticks()[(i+k)%len(ticks())], draws()[(i+k)%len(draws())])
			}
		}
	}
}

// P7.1: OK behind no, one and many fails, and fails behind an OK.
func TestOK(t *testing.T) {
	for _, base := range bases() {
		b, p := New(base), &plain{base: base}
		for many := range 30 {
			for i := range many {
				fail(t, b, p, 50*i, i-many/2)
			}
			ok(t, b, p)
		}
		ok(t, b, p)
		ok(t, b, p)
	}
}

// P7.1: many fails one behind the other stay at the longest wait.
func TestManyFails(t *testing.T) {
	b := New(3)
	for n := 1; n <= 5000; n++ {
		if got, want := b.Fail(n, n), plainLife(n, n, plainWait(3, n)); got != want || b.Fails() != n {
			t.Fatalf("fail %d: %d, want %d; Fails %d", n, got, want, b.Fails())
		}
	}
}

// P7.1: all short rows of calls.
func TestShortRows(t *testing.T) {
	for _, base := range []int{-1, 1, 3, 8, maxSpan} {
		for row := range 4 * 4 * 4 * 4 * 4 {
			b, p := New(base), &plain{base: base}
			for left := row; left > 0; left /= 4 {
				switch left % 4 {
				case 0:
					ok(t, b, p)
				case 1:
					fail(t, b, p, 10, 3)
				case 2:
					fail(t, b, p, maxTick-maxSpan, -2)
				case 3:
					fail(t, b, p, -9, math.MaxInt)
				}
			}
		}
	}
}

// P7.1: long rows of any calls, two backoffs beside each other that share nothing.
func TestLongRows(t *testing.T) {
	r := rand.New(rand.NewSource(70))
	any := func() int { return int(r.Uint64()) >> r.Intn(64) }
	for range 200 {
		one, two := any(), any()
		b, p := [2]*Backoff{New(one), New(two)}, [2]*plain{{base: one}, {base: two}}
		for range 60 {
			i := r.Intn(2)
			if r.Intn(12) == 0 {
				ok(t, b[i], p[i])
				continue
			}
			fail(t, b[i], p[i], any(), any())
			hold(t, b[1-i], p[1-i])
		}
	}
}

// P7.1, R7: of nil, ahead of a fail and behind it.
func TestNil(t *testing.T) {
	var b *Backoff
	for _, n := range append(ticks(), draws()...) {
		if b.Fail(n, n) != 0 || b.May(n) || b.Until() != 0 || b.Fails() != 0 {
			t.Errorf("nil answers %d: %d, %v, %d, %d", n, b.Fail(n, n), b.May(n), b.Until(), b.Fails())
		}
		b.OK()
	}
}

// P7.2: waits don't fall as fails come one behind the other, and are from 1 to MaxSpan.
func TestWaitsDontFall(t *testing.T) {
	for _, base := range bases() {
		last := 0
		for _, fails := range []int{0, 1, 2, 3, 4, 5, 6, 7, 8, 9, 10, 11, 12, 13, 14, 15, 16, 17, 18, 19, 20, 21, 22, 23, 31, 32, 33, 61, 62, 63, 64, 65, 127, 128, 1 << 20, 1 << 32, 1 << 62, math.MaxInt} {
			wait := Wait(base, fails)
			if wait < last || wait > maxSpan || fails > 0 && wait < 1 {
				t.Errorf("Wait(%d, %d) = %d behind %d", base, fails, wait, last)
			}
			last = wait
		}
	}
}

// P7.2: it may be tried no later than a wait and a quarter of it, nor sooner than a wait less a quarter, and at each end some draw's.
func TestNoLaterThanAWaitAndAQuarter(t *testing.T) {
	for _, base := range []int{-1, 1, 2, 3, 4, 5, 7, 8, 9, 20} {
		for fails := 1; fails <= 3; fails++ {
			least, most := maxTick, 0
			for drawn := -60; drawn <= 60; drawn++ {
				b := New(base)
				for range fails - 1 {
					b.Fail(0, 0)
				}
				until := b.Fail(1000, drawn) - 1000
				least, most = min(least, until), max(most, until)
			}
			wait := Wait(base, fails)
			if least != wait-wait/4 || most != wait+wait/4 {
				t.Errorf("base %d, %d fails: from %d to %d about a wait of %d", base, fails, least, most, wait)
			}
		}
	}
}

// P7.2: so at all edges, and never past MaxTick.
func TestNoLaterAtAllEdges(t *testing.T) {
	for _, base := range bases() {
		for _, now := range ticks() {
			b := New(base)
			for _, drawn := range draws() {
				until := b.Fail(now, drawn)
				wait := Wait(base, b.Fails())
				from := min(max(now, 0), maxTick)
				if until > min(from+wait+wait/4, maxTick) || until < min(from+wait-wait/4, maxTick) || !b.May(min(from+wait+wait/4, maxTick)) {
					t.Errorf("base %d, fail %d at %d with %d: %d about a wait of %d", base, b.Fails(), now, drawn, until, wait)
				}
			}
		}
	}
}

// R6: what one backoff was told, another does not know.
func TestNothingIsShared(t *testing.T) {
	a, b := New(8), New(8)
	a.Fail(100, 2)
	a.Fail(100, 2)
	if b.Fails() != 0 || b.Until() != 0 || b.Fail(100, 2) != 108 || a.Fails() != 2 || a.Until() != 114 {
		t.Error("two backoffs share what they were told")
	}
}
