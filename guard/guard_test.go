package guard

import (
	"math"
	"math/big"
	"math/rand"
	"slices"
	"testing"

	"hostler/api"
)

// The states by hand, as letters of short lists: those of package api are held against them once.
const (
	act = 0
	dra = 1
	qua = 2
	ret = 3
)

// noStates are numbers of no state: just beside them, far from them, and such as are Active if bits are cut off.
func noStates() []int {
	return []int{-1, 4, -2, 5, -4, 8, 100, 256, -256, 1 << 16, 1<<31 - 1, 1 << 31, -1 << 31, 1 << 32, -1 << 32, 1 << 62, math.MinInt, math.MinInt + 1, math.MaxInt - 1, math.MaxInt}
}

// somePlaces are the list's places and such as there aren't.
func somePlaces(n int) []int {
	l := []int{math.MinInt, math.MinInt + 1, -1 << 32, -1 << 31, -2, -1}
	for i := range n + 2 {
		l = append(l, i)
	}
	return append(l, n+100, 1<<31, 1<<32, 1<<32+1, math.MaxInt-1, math.MaxInt)
}

// plainCapacity adds each Active host on its own, in numbers that have no bound.
func plainCapacity(states []int, each int) *big.Int {
	sum := new(big.Int)
	for _, state := range states {
		if state == 0 && each > 0 {
			sum.Add(sum, big.NewInt(int64(each)))
		}
	}
	return sum
}

// plainGone is the list as it is without the place; as it is, if there is no such place.
func plainGone(states []int, i int) []int {
	var l []int
	for at, state := range states {
		if at != i {
			l = append(l, state)
		}
	}
	return l
}

func plainMay(states []int, i, each, guard int) bool {
	for at, state := range states {
		if at == i {
			return state != 0 || plainCapacity(plainGone(states, i), each).Cmp(big.NewInt(int64(guard))) >= 0
		}
	}
	return false
}

// plainSpare lets Active hosts leave, the first that may each time, till none may.
func plainSpare(states []int, each, guard int) int {
	for i, state := range states {
		if state == 0 && plainMay(states, i, each, guard) {
			return 1 + plainSpare(plainGone(states, i), each, guard)
		}
	}
	return 0
}

func plainFirst(states, l []int, each, guard int) (int, bool) {
	for _, i := range l {
		if plainMay(states, i, each, guard) {
			return i, true
		}
	}
	return 0, false
}

// asInt is the number, or the greatest int if it is more.
func asInt(n *big.Int) int {
	if n.Cmp(big.NewInt(math.MaxInt)) > 0 {
		return math.MaxInt
	}
	return int(n.Int64())
}

// kept calls do, and holds that the lists are as they were then, behind their ends too.
func kept(t *testing.T, do func(), lists ...[]int) {
	t.Helper()
	var were [][]int
	for _, l := range lists {
		were = append(were, slices.Clone(l[:cap(l)]))
	}
	do()
	for i, l := range lists {
		if !slices.Equal(l[:cap(l)], were[i]) {
			t.Errorf("the list %v was changed to %v", were[i], l[:cap(l)])
		}
	}
}

func wantCapacity(t *testing.T, states []int, each, want int) {
	t.Helper()
	kept(t, func() {
		if got := Capacity(states, each); got != want {
			t.Errorf("Capacity of %v, each %d: %d, want %d", states, each, got, want)
		}
	}, states)
}

func wantMay(t *testing.T, states []int, i, each, guard int, want bool) {
	t.Helper()
	kept(t, func() {
		if got := May(states, i, each, guard); got != want {
			t.Errorf("May of %v at %d, each %d, guard %d: %v", states, i, each, guard, got)
		}
	}, states)
}

func wantWithout(t *testing.T, states []int, i, each, want int) {
	t.Helper()
	kept(t, func() {
		if got := Without(states, i, each); got != want {
			t.Errorf("Without of %v at %d, each %d: %d, want %d", states, i, each, got, want)
		}
	}, states)
}

func wantSpare(t *testing.T, states []int, each, guard, want int) {
	t.Helper()
	kept(t, func() {
		if got := Spare(states, each, guard); got != want {
			t.Errorf("Spare of %v, each %d, guard %d: %d, want %d", states, each, guard, got, want)
		}
	}, states)
}

func wantFirst(t *testing.T, states, l []int, each, guard, want int, wantIs bool) {
	t.Helper()
	kept(t, func() {
		if got, is := First(states, l, each, guard); got != want || is != wantIs {
			t.Errorf("First of %v among %v, each %d, guard %d: %d, %v, want %d, %v", states, l, each, guard, got, is, want, wantIs)
		}
	}, states, l)
}

// hold holds all calls of the list against the plain ones, at each place, under guards about each capacity there is.
func hold(t *testing.T, states []int, each int) {
	t.Helper()
	all := plainCapacity(states, each)
	wantCapacity(t, states, each, asInt(all))
	guards := []int{math.MinInt, -1, 0, 1, math.MaxInt - 1, math.MaxInt}
	for _, n := range []int{asInt(all), asInt(all) - max(each, 0), asInt(all) / 2} {
		guards = append(guards, n-1, n)
		if n < math.MaxInt {
			guards = append(guards, n+1)
		}
	}
	for _, i := range somePlaces(len(states)) {
		wantWithout(t, states, i, each, asInt(plainCapacity(plainGone(states, i), each)))
		for _, guard := range guards {
			wantMay(t, states, i, each, guard, plainMay(states, i, each, guard))
		}
	}
	for _, guard := range guards {
		wantSpare(t, states, each, guard, plainSpare(states, each, guard))
		places := somePlaces(len(states))
		want, is := plainFirst(states, places, each, guard)
		wantFirst(t, states, places, each, guard, want, is)
		slices.Reverse(places)
		want, is = plainFirst(states, places, each, guard)
		wantFirst(t, states, places, each, guard, want, is)
	}
}

// eachList calls do with all lists of at most so many of the choices.
func eachList(most int, choices []int, do func(l []int)) {
	var grow func(l []int)
	grow = func(l []int) {
		do(l)
		if len(l) == most {
			return
		}
		for _, c := range choices {
			grow(append(slices.Clone(l), c))
		}
	}
	grow(nil)
}

// someStates are n states, among them some that there aren't; of ten hosts so many are Active.
func someStates(r *rand.Rand, n, active int) []int {
	others := append(noStates(), dra, qua, ret, dra, qua, ret, dra, qua, ret)
	l := make([]int, n)
	for i := range l {
		if r.Intn(10) >= active {
			l[i] = others[r.Intn(len(others))]
		}
	}
	return l
}

// times is a list of so many of one state.
func times(n, state int) []int {
	return slices.Repeat([]int{state}, n)
}

// P11.1: the states are those of package api.
func TestStates(t *testing.T) {
	if got := []int{api.Active, api.Draining, api.Quarantined, api.Retired}; !slices.Equal(got, []int{act, dra, qua, ret}) {
		t.Errorf("the states are %v", got)
	}
}

// P11.1: Capacity is as many as are Active, times each.
func TestCapacity(t *testing.T) {
	for _, x := range []struct {
		states     []int
		each, want int
	}{
		{nil, 3, 0},
		{[]int{}, 3, 0},
		{nil, 0, 0},
		{nil, -3, 0},
		{nil, math.MaxInt, 0},
		{[]int{act}, 3, 3},
		{[]int{dra}, 3, 0},
		{[]int{qua}, 3, 0},
		{[]int{ret}, 3, 0},
		{[]int{act, act, act}, 2, 6},
		{[]int{dra, qua, ret, dra}, 2, 0},
		{[]int{act, dra, act, qua, act}, 3, 9},
		{[]int{dra, act, qua, ret, act, act, ret}, 8, 24},
		{times(16, act), 8, 128},
		{times(100000, act), 7, 700000},
		{slices.Concat(times(1000, ret), times(1000, act), times(1000, qua)), 5, 5000},
		{[]int{act, act, dra}, 1, 2},
		{[]int{act, act, dra}, 0, 0},
		{[]int{act, act, dra}, -1, 0},
		{[]int{act, act, dra}, -8, 0},
		{[]int{act, act, dra}, math.MinInt, 0},
		{[]int{act, act, dra}, math.MinInt + 1, 0},
		{[]int{act, act, dra}, 1 << 40, 1 << 41},
	} {
		wantCapacity(t, x.states, x.each, x.want)
	}
}

// P11.1: what is no state is not Active.
func TestCapacityOfNoStates(t *testing.T) {
	wantCapacity(t, noStates(), 3, 0)
	for _, state := range noStates() {
		wantCapacity(t, []int{state}, 3, 0)
		wantCapacity(t, []int{state, act, state}, 3, 3)
		wantMay(t, []int{act, state}, 1, 3, math.MaxInt, true)
		wantWithout(t, []int{act, state}, 1, 3, 3)
		wantSpare(t, []int{state, act}, 3, 0, 1)
		wantFirst(t, []int{act, state}, []int{0, 1}, 3, 3, 1, true)
	}
}

// P11.1: a capacity that is more than an int may be stays at the greatest one, and is below no guard.
func TestGreatEach(t *testing.T) {
	wantCapacity(t, []int{act}, math.MaxInt, math.MaxInt)
	wantCapacity(t, times(2, act), math.MaxInt, math.MaxInt)
	wantCapacity(t, times(2, act), 1<<62, math.MaxInt)
	wantCapacity(t, times(2, act), 1<<62-1, math.MaxInt-1)
	wantCapacity(t, times(3, act), math.MaxInt/3, math.MaxInt/3*3)
	wantCapacity(t, times(3, act), math.MaxInt/3+1, math.MaxInt)
	wantCapacity(t, times(4, act), 1<<62, math.MaxInt)
	wantWithout(t, times(3, act), 1, math.MaxInt, math.MaxInt)
	wantWithout(t, times(2, act), 1, math.MaxInt, math.MaxInt)
	wantWithout(t, times(1, act), 0, math.MaxInt, 0)
	wantMay(t, times(2, act), 0, math.MaxInt, math.MaxInt, true)
	wantMay(t, times(2, act), 0, math.MaxInt-1, math.MaxInt, false)
	wantMay(t, times(3, act), 0, 1<<62, math.MaxInt, true)
	wantMay(t, times(5, act), 0, 1<<62, 1, true)
	wantSpare(t, times(5, act), math.MaxInt, math.MaxInt, 4)
	wantSpare(t, times(5, act), 1<<62, math.MaxInt, 3)
	wantSpare(t, times(5, act), 1<<62, 1, 4)
	wantFirst(t, times(5, act), []int{2}, 1<<62, 1, 2, true)
}

// P11.1: May of an Active host, under guards about the capacity that is left.
func TestMay(t *testing.T) {
	states := []int{act, dra, act, qua, act, ret}
	for _, i := range []int{0, 2, 4} {
		for _, x := range []struct {
			each, guard int
			want        bool
		}{
			{3, 6, true}, {3, 7, false}, {3, 5, true}, {3, 9, false}, {3, 10, false}, {3, 8, false},
			{3, 0, true}, {3, 1, true}, {3, -1, true}, {3, -6, true},
			{3, math.MinInt, true}, {3, math.MaxInt, false}, {3, math.MaxInt - 1, false},
			{1, 2, true}, {1, 3, false},
			{0, 0, true}, {0, 1, false}, {0, -1, true}, {0, math.MinInt, true}, {0, math.MaxInt, false},
			{-1, 0, true}, {-1, 1, false}, {-1, -1, true}, {-1, -2, true},
			{-3, 0, true}, {-3, 1, false}, {-3, -6, true},
			{math.MinInt, 0, true}, {math.MinInt, 1, false}, {math.MinInt, math.MinInt, true},
		} {
			wantMay(t, states, i, x.each, x.guard, x.want)
		}
	}
	wantMay(t, []int{act}, 0, 3, 0, true)
	wantMay(t, []int{act}, 0, 3, 1, false)
	wantMay(t, []int{act}, 0, 3, -1, true)
}

// P11.1: one who isn't Active may leave whatever the guard is, and the capacity is the same without it.
func TestOthersMay(t *testing.T) {
	for _, states := range [][]int{{dra}, {qua}, {ret}, {dra, qua, ret}, {act, dra, act, qua, act, ret}, noStates(), append(noStates(), act)} {
		for i, state := range states {
			if state == act {
				continue
			}
			for _, each := range []int{math.MinInt, -1, 0, 1, 3, 8, math.MaxInt} {
				for _, guard := range []int{math.MinInt, -1, 0, 1, 8, 9, 10, 100, math.MaxInt - 1, math.MaxInt} {
					wantMay(t, states, i, each, guard, true)
					wantFirst(t, states, []int{i}, each, guard, i, true)
				}
				wantWithout(t, states, i, each, Capacity(states, each))
			}
		}
	}
}

// P11.1: a host of a place that there isn't may not leave, and the capacity is as it is without it.
func TestNoPlace(t *testing.T) {
	for _, states := range [][]int{nil, {}, {act}, {dra}, {act, act}, {act, dra, act, qua, act}} {
		for _, i := range somePlaces(len(states)) {
			if i >= 0 && i < len(states) {
				continue
			}
			for _, each := range []int{math.MinInt, -1, 0, 1, 3, math.MaxInt} {
				for _, guard := range []int{math.MinInt, -1, 0, 1, 3, math.MaxInt} {
					wantMay(t, states, i, each, guard, false)
					wantFirst(t, states, []int{i}, each, guard, 0, false)
				}
				wantWithout(t, states, i, each, asInt(plainCapacity(states, each)))
			}
		}
	}
	// What lies behind a list's end is none of its places.
	long := []int{act, dra, act, qua}
	wantMay(t, long[:1], 1, 3, 0, false)
	wantWithout(t, long[:2], 2, 3, 3)
	wantFirst(t, long[:1], []int{1, 3}, 3, 0, 0, false)
	wantCapacity(t, long[:2], 3, 3)
	wantSpare(t, long[:2], 3, 0, 1)
}

// P11.1: Without of each place.
func TestWithout(t *testing.T) {
	states := []int{act, dra, act, qua, act, ret}
	for i, want := range []int{6, 9, 6, 9, 6, 9} {
		wantWithout(t, states, i, 3, want)
		wantWithout(t, states, i, 1, want/3)
		wantWithout(t, states, i, 0, 0)
		wantWithout(t, states, i, -1, 0)
		wantWithout(t, states, i, -3, 0)
		wantWithout(t, states, i, math.MinInt, 0)
	}
	wantWithout(t, []int{act}, 0, 3, 0)
	wantWithout(t, []int{ret}, 0, 3, 0)
}

// P11.1: the chapter's example: of three hosts of 2, under guard 4, one may leave, then none.
func TestExample(t *testing.T) {
	states := []int{act, act, act}
	wantSpare(t, states, 2, 4, 1)
	for i := range states {
		wantMay(t, states, i, 2, 4, true)
	}
	states[1] = dra
	wantSpare(t, states, 2, 4, 0)
	wantMay(t, states, 0, 2, 4, false)
	wantMay(t, states, 2, 2, 4, false)
	wantCapacity(t, states, 2, 4)
	wantSpare(t, []int{act, act}, 2, 4, 0)
}

// P11.1: Spare.
func TestSpare(t *testing.T) {
	mixed := []int{act, dra, act, qua, act}
	none := []int{dra, qua, ret, 4, -1}
	for _, x := range []struct {
		states            []int
		each, guard, want int
	}{
		{nil, 3, 0, 0}, {nil, 3, -1, 0}, {nil, 3, 4, 0}, {nil, 0, 0, 0}, {[]int{}, -1, math.MinInt, 0},
		{none, 3, 0, 0}, {none, 3, -1, 0}, {none, 3, 4, 0}, {none, 0, 0, 0}, {none, -1, -1, 0},
		{mixed, 3, 0, 3}, {mixed, 3, -1, 3}, {mixed, 3, -5, 3}, {mixed, 3, math.MinInt, 3},
		{mixed, 3, 1, 2}, {mixed, 3, 2, 2}, {mixed, 3, 3, 2},
		{mixed, 3, 4, 1}, {mixed, 3, 5, 1}, {mixed, 3, 6, 1},
		{mixed, 3, 7, 0}, {mixed, 3, 8, 0}, {mixed, 3, 9, 0}, {mixed, 3, 10, 0}, {mixed, 3, 100, 0},
		{mixed, 3, math.MaxInt - 1, 0}, {mixed, 3, math.MaxInt, 0},
		{mixed, 1, 0, 3}, {mixed, 1, 1, 2}, {mixed, 1, 2, 1}, {mixed, 1, 3, 0}, {mixed, 1, 4, 0},
		{mixed, 0, 0, 3}, {mixed, 0, -1, 3}, {mixed, 0, math.MinInt, 3}, {mixed, 0, 1, 0}, {mixed, 0, 2, 0}, {mixed, 0, math.MaxInt, 0},
		{mixed, -1, 0, 3}, {mixed, -1, -1, 3}, {mixed, -1, -2, 3}, {mixed, -1, -3, 3}, {mixed, -1, math.MinInt, 3}, {mixed, -1, 1, 0},
		{mixed, math.MinInt, 0, 3}, {mixed, math.MinInt, math.MinInt, 3}, {mixed, math.MinInt, 1, 0}, {mixed, math.MinInt, math.MaxInt, 0},
		{[]int{act}, 5, 0, 1}, {[]int{act}, 5, 1, 0}, {[]int{act}, 5, 5, 0},
		{times(100000, act), 8, 4001, 99499}, {times(100000, act), 8, 4000, 99500}, {times(100000, act), 8, 3999, 99500},
	} {
		wantSpare(t, x.states, x.each, x.guard, x.want)
	}
}

// P11.1: Spare is as many Active hosts as leave, in whatever row, while May lets them.
func TestSpareIsHowManyLeave(t *testing.T) {
	r := rand.New(rand.NewSource(110))
	for range 3000 {
		states := someStates(r, r.Intn(30), r.Intn(11))
		each := r.Intn(12) - 2
		guard := r.Intn(max(Capacity(states, each), 0)+6) - 3
		want := Spare(states, each, guard)
		left, gone := slices.Clone(states), 0
		for _, i := range r.Perm(len(left)) {
			if left[i] == act && May(left, i, each, guard) {
				left[i] = dra
				gone++
			}
		}
		if gone != want {
			t.Errorf("Spare of %v, each %d, guard %d: %d, and %d leave", states, each, guard, want, gone)
		}
		wantSpare(t, left, each, guard, 0)
	}
}

// P11.1: First is the first of the places told whose host may leave.
func TestFirst(t *testing.T) {
	states := []int{act, dra, act, qua, act}
	for _, x := range []struct {
		l           []int
		each, guard int
		want        int
		is          bool
	}{
		{nil, 3, 0, 0, false},
		{[]int{}, 3, math.MinInt, 0, false},
		{[]int{9, 0, 1}, 3, 9, 1, true},
		{[]int{0, 1, 2, 3, 4}, 3, 6, 0, true},
		{[]int{0, 1, 2, 3, 4}, 3, 7, 1, true},
		{[]int{4, 3, 2, 1, 0}, 3, 6, 4, true},
		{[]int{4, 3, 2, 1, 0}, 3, 7, 3, true},
		{[]int{2, 0, 4, 1}, 3, 7, 1, true},
		{[]int{2, 3, 4, 1}, 3, 7, 3, true},
		{[]int{2, 3, 4, 1}, 3, 6, 2, true},
		{[]int{0, 2, 4}, 3, 7, 0, false},
		{[]int{0, 2, 4}, 3, 6, 0, true},
		{[]int{0}, 3, 6, 0, true},
		{[]int{0}, 3, 7, 0, false},
		{[]int{2}, 3, 6, 2, true},
		{[]int{2}, 3, 7, 0, false},
		{[]int{-1, 5, 0}, 3, 6, 0, true},
		{[]int{-1, 5, math.MinInt, math.MaxInt}, 3, 0, 0, false},
		{[]int{-1, 5, math.MinInt, math.MaxInt, 2, 3}, 3, 0, 2, true},
		{[]int{2, 2, 2}, 3, 7, 0, false},
		{[]int{2, 2, 3, 3}, 3, 7, 3, true},
		{[]int{2, 2}, 3, 6, 2, true},
		{[]int{4, 1, 4, 1}, 0, 1, 1, true},
		{[]int{4, 1, 4, 1}, 0, 0, 4, true},
		{[]int{4, 0}, -1, 1, 0, false},
		{[]int{4, 0}, -1, 0, 4, true},
		{[]int{4, 0}, -1, -5, 4, true},
		{[]int{0, 2, 4, 1}, 3, math.MaxInt, 1, true},
		{[]int{4, 1}, 3, math.MinInt, 4, true},
	} {
		wantFirst(t, states, x.l, x.each, x.guard, x.want, x.is)
	}
	wantFirst(t, []int{dra}, []int{0}, 3, math.MaxInt, 0, true)
	wantFirst(t, nil, []int{0, 1, -1}, 3, 0, 0, false)
	wantFirst(t, nil, nil, 3, 0, 0, false)
}

// P11.1: First goes through long lists within a moment.
func TestFirstOfLong(t *testing.T) {
	states := append(times(200000, act), dra)
	places := append(times(200000, 7), 200000)
	wantFirst(t, states, places, 1, 200000, 200000, true)
	wantFirst(t, states, places[:200000], 1, 200000, 0, false)
	wantFirst(t, states, places, 1, 199999, 7, true)
}

// P11.1: First of any places in any row.
func TestFirstOfAny(t *testing.T) {
	r := rand.New(rand.NewSource(111))
	for range 5000 {
		states := someStates(r, r.Intn(8), r.Intn(11))
		choices := somePlaces(len(states))
		l := make([]int, r.Intn(8))
		for i := range l {
			l[i] = choices[r.Intn(len(choices))]
		}
		each, guard := r.Intn(8)-2, r.Intn(40)-4
		want, is := plainFirst(states, l, each, guard)
		wantFirst(t, states, l, each, guard, want, is)
	}
}

// P11.1: Fell.
func TestFell(t *testing.T) {
	least, most := math.MinInt, math.MaxInt
	for _, x := range []struct {
		was, now, guard int
		want            bool
	}{
		{5, 6, 4, false}, {5, 6, 9, false}, {2, 3, 4, false}, {3, 4, 4, false},
		{5, 5, 4, false}, {4, 4, 4, false}, {3, 3, 4, false}, {3, 3, 9, false}, {0, 0, 1, false},
		{9, 5, 4, false}, {6, 5, 4, false}, {5, 4, 4, false}, {9, 4, 4, false},
		{5, 3, 4, true}, {4, 3, 4, true}, {9, 0, 4, true}, {9, 0, 1, true},
		{3, 2, 4, true}, {3, 0, 4, true}, {1, 0, 9, true},
		{9, 0, 0, false}, {9, 0, -1, false}, {9, -1, 0, true}, {-1, -2, -1, true}, {-1, -2, -2, false},
		{most, most, most, false}, {most, most - 1, most, true}, {most, least, most, true}, {most, least, least, false},
		{most, least, least + 1, true}, {least, least, most, false}, {least, most, most, false}, {least + 1, least, most, true},
		{least + 1, least, least, false}, {most, 0, least, false}, {most, 0, most, true}, {0, least, 0, true}, {least, 0, most, false},
		{most, -1, 0, true}, {1, least, 2, true}, {most, 4, 4, false}, {most, 3, 4, true},
	} {
		if got := Fell(x.was, x.now, x.guard); got != x.want {
			t.Errorf("Fell of %d, %d, guard %d: %v", x.was, x.now, x.guard, got)
		}
	}
}

// P11.1: Fell of any numbers.
func TestFellOfAny(t *testing.T) {
	numbers := []int{math.MinInt, math.MinInt + 1, -1 << 62, -1 << 32, -2, -1, 0, 1, 2, 3, 1 << 31, 1 << 32, 1 << 62, math.MaxInt - 1, math.MaxInt}
	for _, was := range numbers {
		for _, now := range numbers {
			for _, guard := range numbers {
				a, b, c := big.NewInt(int64(was)), big.NewInt(int64(now)), big.NewInt(int64(guard))
				if got, want := Fell(was, now, guard), a.Cmp(b) == 1 && c.Cmp(b) == 1; got != want {
					t.Errorf("Fell of %d, %d, guard %d: %v", was, now, guard, got)
				}
			}
		}
	}
}

// P11.1: all calls of all short lists, and of many long ones, at any numbers.
func TestOfAny(t *testing.T) {
	eachList(4, []int{act, dra, qua, ret, 4}, func(l []int) {
		for _, each := range []int{-1, 0, 1, 3} {
			hold(t, l, each)
		}
	})
	eachList(6, []int{act, dra}, func(l []int) {
		for _, each := range []int{math.MinInt, 2, 1 << 61, 1 << 62, math.MaxInt / 3, math.MaxInt} {
			hold(t, l, each)
		}
	})
	r := rand.New(rand.NewSource(112))
	for range 100 {
		states := someStates(r, r.Intn(24), r.Intn(11))
		hold(t, states, r.Intn(12)-2)
		hold(t, states, int(r.Uint64()))
		hold(t, states, int(r.Uint64()>>uint(1+r.Intn(63))))
	}
}

// leave lets those who ask leave, if they may, and holds that the capacity never falls past the guard. Who left is of
// the state by then, or there no more.
func leave(t *testing.T, states []int, each, guard int, ask []int, by func(l []int, i int) []int) {
	t.Helper()
	l := slices.Clone(states)
	was := plainCapacity(l, each)
	for _, i := range ask {
		if !May(l, i, each, guard) {
			continue
		}
		without := Without(l, i, each)
		told := Capacity(l, each)
		l = by(l, i)
		now := plainCapacity(l, each)
		if now.Cmp(was) < 0 && now.Cmp(big.NewInt(int64(guard))) < 0 || Fell(told, Capacity(l, each), guard) {
			t.Fatalf("of %v, each %d, guard %d, as %v ask: fell from %d to %d", states, each, guard, ask, was, now)
		}
		if Capacity(l, each) != without {
			t.Fatalf("Without of %d: %d, and it is %d: %v, each %d", i, without, Capacity(l, each), l, each)
		}
		was = now
	}
}

// becomes is a host that leaves by being of that state from then on.
func becomes(state int) func(l []int, i int) []int {
	return func(l []int, i int) []int {
		l = slices.Clone(l)
		l[i] = state
		return l
	}
}

// P11.2: of all short lists, whoever asks in whatever row.
func TestNeverFallsPast(t *testing.T) {
	ways := []func(l []int, i int) []int{becomes(dra), becomes(qua), becomes(ret), plainGone}
	eachList(3, []int{act, dra, qua, ret, -1}, func(states []int) {
		for each := -1; each <= 3; each++ {
			for guard := -1; guard <= 10; guard++ {
				eachList(3, []int{-1, 0, 1, 2, 3}, func(ask []int) {
					leave(t, states, each, guard, ask, ways[len(ask)])
				})
			}
		}
	})
	for n := range 8 {
		for each := range 4 {
			for guard := -1; guard <= 22; guard++ {
				for _, by := range ways {
					// The place 0 of who is there no more is another host's.
					leave(t, times(n, act), each, guard, times(n+1, 0), by)
					leave(t, times(n, act), each, guard, []int{0, 1, 2, 3, 4, 5, 6, 7}, by)
				}
			}
		}
	}
}

// P11.2: of many long lists, of any numbers.
func TestNeverFallsPastOfLong(t *testing.T) {
	r := rand.New(rand.NewSource(113))
	ways := []func(l []int, i int) []int{becomes(dra), becomes(qua), becomes(ret), plainGone}
	for range 1500 {
		states := someStates(r, r.Intn(60), r.Intn(11))
		ask := append(r.Perm(len(states)+2), -1, 0, len(states), 0, math.MaxInt, math.MinInt)
		each := r.Intn(12) - 2
		guard := r.Intn(Capacity(states, each)+6) - 3
		leave(t, states, each, guard, ask, ways[r.Intn(len(ways))])
		each, guard = int(r.Uint64()>>uint(r.Intn(63))), int(r.Uint64()>>uint(r.Intn(63)))
		leave(t, states, each, guard, ask, ways[r.Intn(len(ways))])
	}
}

// P11.2: the same of who is told by First, till none may.
func TestFirstNeverFallsPast(t *testing.T) {
	r := rand.New(rand.NewSource(114))
	for range 1500 {
		l := someStates(r, r.Intn(40), r.Intn(11))
		each := r.Intn(12) - 2
		guard := r.Intn(Capacity(l, each)+6) - 3
		spare, gone := Spare(l, each, guard), 0
		for range len(l) + 1 {
			i, is := First(l, r.Perm(len(l)), each, guard)
			if !is {
				break
			}
			was := Capacity(l, each)
			if l[i] == act {
				gone++
			}
			l = plainGone(l, i)
			if Fell(was, Capacity(l, each), guard) {
				t.Fatalf("it fell from %d to %d, guard %d", was, Capacity(l, each), guard)
			}
		}
		if gone != spare {
			t.Errorf("%d left, Spare was %d: each %d, guard %d, %v is left", gone, spare, each, guard, l)
		}
	}
}

// R6: what a call answers does not hang on those ahead of it, nor on what becomes of a list behind it.
func TestNothingIsKept(t *testing.T) {
	states := []int{act, act, act}
	for range 100 {
		wantMay(t, states, 0, 2, 4, true)
		states[0] = dra
		wantMay(t, states, 1, 2, 4, false)
		wantFirst(t, states, []int{2, 0}, 2, 4, 0, true)
		wantCapacity(t, states, 2, 4)
		states[0] = act
		wantCapacity(t, states, 2, 6)
		wantSpare(t, states, 2, 4, 1)
		wantFirst(t, states, []int{2, 0}, 2, 4, 2, true)
	}
}
