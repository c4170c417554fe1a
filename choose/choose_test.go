package choose

import (
	"math"
	"math/big"
	"math/rand"
	"slices"
	"testing"

	"hostler/api"
)

// The states by hand: those of package api are held against them once.
const (
	act = 0
	dra = 1
	qua = 2
	ret = 3
)

// The least and the greatest int.
const (
	lowest = math.MinInt
	most   = math.MaxInt
)

// notActive are the other states, and numbers of no state: just beside them, far from them, and such as are Active if
// bits are cut off.
func notActive() []int {
	return []int{dra, qua, ret, 4, 5, -1, -2, -4, 8, 100, 256, -256, 1 << 16, 1<<31 - 1, 1 << 31, -1 << 31, 1 << 32, -1 << 32, 1 << 62, lowest, lowest + 1, most - 1, most}
}

// edges are numbers at which something may turn, or wrap.
func edges() []int {
	return []int{lowest, lowest + 1, -1 << 62, -1 << 32, -2, -1, 0, 1, 2, 3, 1 << 31, 1 << 32, 1 << 61, 1 << 62, most - 1, most}
}

// chooser is one of the calls that choose a host, and what the chapter says of it.
type chooser struct {
	name  string
	call  func(l []Host) (int, bool)
	could func(h Host) bool
	// better tells whether it is to be chosen ahead of the other one, wherever both stand; if of neither, the first is.
	better func(h, other Host) bool
}

// plainSum adds the numbers that are above 0, without a bound.
func plainSum(numbers ...int) *big.Int {
	sum := new(big.Int)
	for _, n := range numbers {
		if n > 0 {
			sum.Add(sum, big.NewInt(int64(n)))
		}
	}
	return sum
}

// fewer tells whether so many are fewer than the bound.
func fewer(sum *big.Int, bound int) bool {
	return sum.Cmp(big.NewInt(int64(bound))) < 0
}

func plainInAll(h Host) *big.Int {
	return plainSum(h.Making, h.Idle, h.Busy)
}

// mayBeDialled is what the chapter asks of a host both for Open and for Warm.
func mayBeDialled(h Host, each int) bool {
	return h.State == act && h.May && fewer(plainInAll(h), each)
}

// asInt is the number, or the greatest int if it is more.
func asInt(n *big.Int) int {
	if n.Cmp(big.NewInt(most)) > 0 {
		return most
	}
	return int(n.Int64())
}

func serve() chooser {
	return chooser{
		name:   "Serve",
		call:   Serve,
		could:  func(h Host) bool { return h.State == act && h.Idle > 0 },
		better: func(h, other Host) bool { return plainSum(h.Busy).Cmp(plainSum(other.Busy)) < 0 },
	}
}

func open(each int) chooser {
	return chooser{
		name:   "Open",
		call:   func(l []Host) (int, bool) { return Open(l, each) },
		could:  func(h Host) bool { return mayBeDialled(h, each) },
		better: func(h, other Host) bool { return plainInAll(h).Cmp(plainInAll(other)) < 0 },
	}
}

func warm(each, warm int) chooser {
	return chooser{
		name:   "Warm",
		call:   func(l []Host) (int, bool) { return Warm(l, each, warm) },
		could:  func(h Host) bool { return mayBeDialled(h, each) && fewer(plainSum(h.Making, h.Idle), warm) },
		better: func(h, other Host) bool { return false },
	}
}

// plain is what the chapter's sentence tells of the list.
func (c chooser) plain(l []Host) (int, bool) {
	for i, h := range l {
		if c.could(h) && !slices.ContainsFunc(l, func(other Host) bool { return c.could(other) && c.better(other, h) }) {
			return i, true
		}
	}
	return 0, false
}

// hidden is the list with hosts behind its end that may be chosen by each call, if it looked there.
func hidden(l []Host) []Host {
	best := Host{State: act, Idle: 1, May: true}
	return append(slices.Clone(l), best, Host{May: true}, best)[:len(l)]
}

// kept calls do, and holds that the list is as it was then, behind its end too.
func kept(t *testing.T, l []Host, do func()) {
	t.Helper()
	was := slices.Clone(l[:cap(l)])
	do()
	if !slices.Equal(l[:cap(l)], was) {
		t.Errorf("the list %v was changed to %v", was, l[:cap(l)])
	}
}

// want holds that the call answers that, of the list alone and with others behind its end, whenever it is asked.
func (c chooser) want(t *testing.T, l []Host, want int, wantIs bool) {
	t.Helper()
	for _, given := range [][]Host{l, hidden(l)} {
		for range 2 {
			kept(t, given, func() {
				if got, is := c.call(given); got != want || is != wantIs {
					t.Errorf("%s of %+v: %d, %v, want %d, %v", c.name, l, got, is, want, wantIs)
				}
			})
		}
	}
}

// hold holds the call against what the chapter's sentence tells.
func (c chooser) hold(t *testing.T, l []Host) {
	t.Helper()
	want, is := c.plain(l)
	c.want(t, l, want, is)
}

func wantAll(t *testing.T, l []Host, want int) {
	t.Helper()
	for _, given := range [][]Host{l, hidden(l)} {
		for range 2 {
			kept(t, given, func() {
				if got := All(given); got != want {
					t.Errorf("All of %+v: %d, want %d", l, got, want)
				}
			})
		}
	}
}

func holdAll(t *testing.T, l []Host) {
	t.Helper()
	sum := new(big.Int)
	for _, h := range l {
		sum.Add(sum, plainInAll(h))
	}
	wantAll(t, l, asInt(sum))
}

func wantNeed(t *testing.T, waiting, making, want int) {
	t.Helper()
	for range 2 {
		if got := Need(waiting, making); got != want {
			t.Errorf("Need of %d, %d: %d, want %d", waiting, making, got, want)
		}
	}
}

// host is an Active one that may be dialled.
func host(making, idle, busy int) Host {
	return Host{State: act, Making: making, Idle: idle, Busy: busy, May: true}
}

// but is the host with something about it turned.
func but(h Host, turn func(h *Host)) Host {
	turn(&h)
	return h
}

// in is the host in each of these states.
func in(h Host, states ...int) []Host {
	var l []Host
	for _, state := range states {
		l = append(l, but(h, func(h *Host) { h.State = state }))
	}
	return l
}

// times is a list of so many that are alike.
func times(n int, h Host) []Host {
	return slices.Repeat([]Host{h}, n)
}

// P17.1: the states are those of package api.
func TestStates(t *testing.T) {
	if got := []int{api.Active, api.Draining, api.Quarantined, api.Retired}; !slices.Equal(got, []int{act, dra, qua, ret}) {
		t.Errorf("the states are %v", got)
	}
}

// P17.1: the chapter's example: of two with idle ones, busy 2 and 1, the second.
func TestExample(t *testing.T) {
	l := []Host{host(0, 1, 2), host(0, 1, 1)}
	serve().want(t, l, 1, true)
	slices.Reverse(l)
	serve().want(t, l, 0, true)
}

// P17.1: of no host none is chosen, whatever is asked.
func TestNoHost(t *testing.T) {
	for _, l := range [][]Host{nil, {}} {
		serve().want(t, l, 0, false)
		for _, each := range edges() {
			open(each).want(t, l, 0, false)
			for _, n := range edges() {
				warm(each, n).want(t, l, 0, false)
			}
		}
		wantAll(t, l, 0)
	}
}

// single is a call, a host that may be chosen by it, and such as may not for a single thing each.
type single struct {
	chooser
	good Host
	bad  []Host
}

// singles are the calls that choose, each asked of hosts with 4 for each and 2 warm.
func singles() []single {
	good := host(0, 1, 2)
	mayNot := but(good, func(h *Host) { h.May = false })
	full := []Host{host(0, 1, 3), host(1, 1, 2), host(0, 1, 4), host(1, 0, 3), host(0, 0, 4), host(1, 1, 100), host(0, 0, most), host(-1, 1, 3)}
	others := in(good, notActive()...)
	return []single{
		{serve(), good, append(slices.Clone(others), host(0, 0, 2), host(3, 0, 2), host(0, -1, 2), host(0, lowest, 2), host(5, 0, 0))},
		{open(4), good, slices.Concat(others, full, []Host{mayNot})},
		{warm(4, 2), good, slices.Concat(others, full, []Host{mayNot, host(0, 2, 1), host(1, 1, 1), host(2, 0, 1), host(0, 3, 0), host(1, 2, 0), host(2, 0, 0), host(2, -1, 0), host(-1, 2, 0)})},
	}
}

// P17.1: a host for which all is as it should be is chosen; one for which a single thing is not, is not.
func TestSingleThings(t *testing.T) {
	for _, s := range singles() {
		s.want(t, []Host{s.good}, 0, true)
		for _, bad := range s.bad {
			s.want(t, []Host{bad}, 0, false)
			s.want(t, []Host{bad, bad}, 0, false)
			s.want(t, []Host{bad, s.good}, 1, true)
			s.want(t, []Host{s.good, bad}, 0, true)
			s.want(t, []Host{bad, bad, s.good, bad}, 2, true)
		}
		s.want(t, s.bad, 0, false)
		s.want(t, append(slices.Clone(s.bad), s.good, s.good), len(s.bad), true)
	}
}

// P17.1: of several that are alike in what is asked, the first one is chosen.
func TestAlike(t *testing.T) {
	for _, s := range singles() {
		for _, n := range []int{1, 2, 3, 100} {
			s.want(t, times(n, s.good), 0, true)
			s.want(t, append(slices.Clone(s.bad), times(n, s.good)...), len(s.bad), true)
		}
	}
	// They need not be alike in all else.
	serve().want(t, []Host{host(9, 9, 1), host(0, 1, 1), host(0, 5, 1)}, 0, true)
	serve().want(t, []Host{host(0, 1, 2), host(9, 9, 1), host(0, 1, 1)}, 1, true)
	open(9).want(t, []Host{host(0, 1, 2), host(3, 0, 0), host(1, 1, 1), host(0, 0, 3)}, 0, true)
	open(9).want(t, []Host{host(0, 0, 4), host(0, 0, 3), host(3, 0, 0), host(0, 3, 0)}, 1, true)
}

// P17.1: a host whose State isn't set is Active, and the zero host may not be dialled and has no idle one.
func TestStateNotSet(t *testing.T) {
	serve().want(t, []Host{{Idle: 1}}, 0, true)
	open(1).want(t, []Host{{May: true}}, 0, true)
	warm(1, 1).want(t, []Host{{May: true}}, 0, true)
	serve().want(t, []Host{{}, {Idle: 1}}, 1, true)
	open(1).want(t, []Host{{}, {May: true}}, 1, true)
	warm(1, 1).want(t, []Host{{}, {May: true}}, 1, true)
	serve().want(t, []Host{{}}, 0, false)
	open(1).want(t, []Host{{}}, 0, false)
	warm(1, 1).want(t, []Host{{}}, 0, false)
}

// P17.1: none is told from the first one.
func TestNoneIsNotTheFirst(t *testing.T) {
	for _, s := range singles() {
		for _, bad := range s.bad {
			s.want(t, times(50, bad), 0, false)
			s.want(t, append([]Host{s.good}, times(49, bad)...), 0, true)
		}
	}
}

// P17.1: the best one is chosen wherever it stands in a long list, whatever better ones there are that may not be.
func TestBestAnywhere(t *testing.T) {
	const long = 301
	good, best := host(1, 1, 7), host(0, 1, 3)
	better := append(in(host(0, 1, 0), notActive()...), in(host(0, 1, lowest), notActive()...)...)
	noIdle := []Host{host(0, 0, 0), host(1, 0, 1), host(0, -1, -1)}
	mayNot := []Host{{Idle: 1}, {Idle: 1, Busy: 1}, {}}
	for _, x := range []struct {
		chooser
		better []Host
	}{
		{serve(), slices.Concat(better, noIdle)},
		{open(20), slices.Concat(better, mayNot)},
	} {
		for _, at := range []int{0, 1, long / 2, long - 2, long - 1} {
			l := times(long, good)
			l[at] = best
			x.want(t, l, at, true)
			for i := range l {
				if i%2 != at%2 {
					l[i] = x.better[i%len(x.better)]
				}
			}
			x.want(t, l, at, true)
		}
		// Each better one of the next is ahead of those that are worse, and is chosen itself.
		l := make([]Host, long)
		for i := range l {
			l[i] = host(0, 1, 10-i*10/(long-1))
		}
		x.want(t, l, long-1, true)
		slices.Reverse(l)
		x.want(t, l, 0, true)
	}
}

// P17.1: Warm takes the first one wherever it stands in a long list, whatever emptier ones there are that may not be
// chosen, or stand behind it.
func TestFirstAnywhere(t *testing.T) {
	const long = 301
	good, empty := host(1, 1, 3), host(0, 0, 0)
	bad := slices.Concat(in(empty, notActive()...), []Host{{}, host(0, 3, 0), host(3, 0, 0), host(2, 1, 0), host(0, 0, 6)})
	for _, at := range []int{0, 1, long / 2, long - 2, long - 1} {
		l := make([]Host, long)
		for i := range l {
			l[i] = bad[i%len(bad)]
		}
		warm(6, 3).want(t, l, 0, false)
		l[at] = good
		warm(6, 3).want(t, l, at, true)
		for i := at + 1; i < long; i += 2 {
			l[i] = empty
		}
		warm(6, 3).want(t, l, at, true)
	}
}

// P17.1: Serve asks of a host's state, its idle ones and its busy ones, and of nothing else.
func TestServe(t *testing.T) {
	mayNot := Host{Idle: 1, Busy: 1}
	for _, x := range []struct {
		l    []Host
		want int
		is   bool
	}{
		{[]Host{mayNot}, 0, true},
		{[]Host{host(0, 1, 2), mayNot}, 1, true},
		{[]Host{mayNot, host(0, 1, 1)}, 0, true},
		{[]Host{mayNot, host(0, 1, 0)}, 1, true},
		// Those that are made and idle don't count: the first has the most in all, and the fewest busy.
		{[]Host{host(5, 5, 0), host(0, 1, 1)}, 0, true},
		{[]Host{host(0, 1, 1), host(5, 5, 0)}, 1, true},
		{[]Host{host(0, 9, 3), host(0, 1, 4)}, 0, true},
		{[]Host{host(9, 1, 3), host(0, 1, 4)}, 0, true},
		{[]Host{host(0, 1, 4), host(9, 1, 3)}, 1, true},
		{[]Host{host(most, most, 0), host(0, 1, 1)}, 0, true},
		{[]Host{host(0, 1, most), host(0, 1, most-1)}, 1, true},
		{[]Host{host(0, 1, most)}, 0, true},
		{[]Host{host(most, 1, most), host(0, most, most), host(most, most, most)}, 0, true},
		{[]Host{host(0, 0, 0), host(1, 0, 0), host(0, 0, 1)}, 0, false},
		{[]Host{host(0, 0, 0), host(1, 0, 0), host(0, 1, 1)}, 2, true},
	} {
		serve().want(t, x.l, x.want, x.is)
	}
}

// P17.1: Open counts those that are being made, are idle and are busy, in what is below each and in what is fewest.
func TestOpen(t *testing.T) {
	for _, x := range []struct {
		l    []Host
		each int
		want int
		is   bool
	}{
		{[]Host{host(1, 1, 1), host(2, 0, 0), host(0, 0, 3)}, 4, 1, true},
		{[]Host{host(1, 1, 1), host(0, 2, 0), host(3, 0, 0)}, 4, 1, true},
		{[]Host{host(1, 1, 1), host(0, 0, 2), host(0, 3, 0)}, 4, 1, true},
		{[]Host{host(1, 1, 1), host(2, 0, 1), host(0, 2, 1), host(1, 1, 0)}, 4, 3, true},
		{[]Host{host(1, 0, 0), host(0, 1, 0), host(0, 0, 1)}, 1, 0, false},
		{[]Host{host(1, 0, 0), host(0, 1, 0), host(0, 0, 1), host(0, 0, 0)}, 1, 3, true},
		{[]Host{host(3, 0, 0)}, 3, 0, false}, {[]Host{host(3, 0, 0)}, 4, 0, true}, {[]Host{host(3, 0, 0)}, 2, 0, false},
		{[]Host{host(0, 3, 0)}, 3, 0, false}, {[]Host{host(0, 3, 0)}, 4, 0, true}, {[]Host{host(0, 3, 0)}, 2, 0, false},
		{[]Host{host(0, 0, 3)}, 3, 0, false}, {[]Host{host(0, 0, 3)}, 4, 0, true}, {[]Host{host(0, 0, 3)}, 2, 0, false},
		{[]Host{host(1, 1, 1)}, 3, 0, false}, {[]Host{host(1, 1, 1)}, 4, 0, true}, {[]Host{host(1, 1, 1)}, 2, 0, false},
		// That it has many idle ones is nothing to Open.
		{[]Host{host(0, 7, 0), host(0, 0, 6)}, 8, 1, true},
		{[]Host{{Idle: 1}, host(0, 2, 0)}, 8, 1, true},
	} {
		open(x.each).want(t, x.l, x.want, x.is)
	}
}

// P17.1: Warm takes the first one, not the one that has the fewest of anything, and doesn't count the busy as warm.
func TestWarm(t *testing.T) {
	for _, x := range []struct {
		l          []Host
		each, warm int
		want       int
		is         bool
	}{
		{[]Host{host(1, 1, 5), host(0, 0, 0)}, 8, 3, 0, true},
		{[]Host{host(0, 2, 0), host(0, 0, 0)}, 8, 3, 0, true},
		{[]Host{host(0, 0, 0), host(0, 0, 0)}, 8, 3, 0, true},
		{[]Host{host(1, 2, 0), host(1, 1, 4), host(0, 0, 0)}, 8, 3, 1, true},
		{[]Host{host(1, 2, 0), host(0, 3, 0), host(3, 0, 0)}, 8, 3, 0, false},
		{[]Host{host(0, 0, 7)}, 8, 1, 0, true},
		{[]Host{host(0, 0, 8)}, 8, 1, 0, false},
		{[]Host{host(0, 0, 3)}, 8, 3, 0, true},
		{[]Host{host(0, 2, 0)}, 8, 2, 0, false}, {[]Host{host(0, 2, 0)}, 8, 3, 0, true}, {[]Host{host(0, 2, 0)}, 8, 1, 0, false},
		{[]Host{host(2, 0, 0)}, 8, 2, 0, false}, {[]Host{host(2, 0, 0)}, 8, 3, 0, true}, {[]Host{host(2, 0, 0)}, 8, 1, 0, false},
		{[]Host{host(1, 1, 0)}, 8, 2, 0, false}, {[]Host{host(1, 1, 0)}, 8, 3, 0, true}, {[]Host{host(1, 1, 0)}, 8, 1, 0, false},
		// Where fewer may be there in all than are to be warm, that holds.
		{[]Host{host(0, 2, 0)}, 2, 5, 0, false}, {[]Host{host(0, 1, 0)}, 2, 5, 0, true},
		{[]Host{host(0, 1, 1)}, 2, 5, 0, false}, {[]Host{host(0, 1, 1)}, 3, 5, 0, true},
		{[]Host{{Idle: 1}, host(0, 2, 0)}, 8, 3, 1, true},
	} {
		warm(x.each, x.warm).want(t, x.l, x.want, x.is)
	}
}

// P17.1: each and warm may be any number.
func TestAnyBounds(t *testing.T) {
	for _, n := range []int{lowest, lowest + 1, -2, -1, 0} {
		l := []Host{host(0, 0, 0), host(-1, -1, -1), host(lowest, lowest, lowest), host(1, 0, 0)}
		open(n).want(t, l, 0, false)
		warm(n, 9).want(t, l, 0, false)
		warm(9, n).want(t, l, 0, false)
		warm(n, n).want(t, l, 0, false)
		warm(n, most).want(t, l, 0, false)
		warm(most, n).want(t, l, 0, false)
	}
	l := []Host{host(1, 0, 0), host(0, 0, 0)}
	open(1).want(t, l, 1, true)
	warm(1, 9).want(t, l, 1, true)
	warm(9, 1).want(t, l, 1, true)
	warm(1, 1).want(t, l, 1, true)
	open(most).want(t, l, 1, true)
	warm(most, most).want(t, l, 0, true)
	warm(2, most).want(t, l, 0, true)
	warm(most, 2).want(t, l, 0, true)
	for _, h := range []Host{host(2, 2, 1), host(0, 4, 1), host(4, 0, 1)} {
		for each, is := range map[int]bool{4: false, 5: false, 6: true, most: true, lowest: false} {
			open(each).want(t, []Host{h}, 0, is)
			warm(each, 5).want(t, []Host{h}, 0, is)
		}
		for n, is := range map[int]bool{3: false, 4: false, 5: true, most: true, lowest: false} {
			warm(6, n).want(t, []Host{h}, 0, is)
		}
	}
}

// P17.1: a number below 0 counts as 0 wherever it is counted: it makes up for nothing, and is not fewer than 0.
func TestBelowZero(t *testing.T) {
	for _, n := range []int{-1, -2, -100, -1 << 32, lowest + 1, lowest} {
		// In what is fewest.
		serve().want(t, []Host{host(0, 1, 0), host(0, 1, n)}, 0, true)
		serve().want(t, []Host{host(0, 1, n), host(0, 1, 0)}, 0, true)
		serve().want(t, []Host{host(0, 1, 1), host(0, 1, n)}, 1, true)
		serve().want(t, []Host{host(0, 1, -1), host(0, 1, n), host(n, 1, n)}, 0, true)
		serve().want(t, []Host{host(n, 1, 1), host(0, 1, 0)}, 1, true)
		for _, h := range []Host{host(n, 1, 1), host(1, n, 1), host(1, 1, n), host(2, n, n), host(n, 2, n), host(n, n, 2)} {
			open(9).want(t, []Host{host(1, 1, 0), h}, 0, true)
			open(9).want(t, []Host{h, host(1, 1, 0)}, 0, true)
			open(9).want(t, []Host{h, host(1, 0, 0)}, 1, true)
			// In what is in all.
			open(2).want(t, []Host{h}, 0, false)
			open(3).want(t, []Host{h}, 0, true)
			warm(2, 9).want(t, []Host{h}, 0, false)
			warm(3, 9).want(t, []Host{h}, 0, true)
			wantAll(t, []Host{h}, 2)
			wantAll(t, []Host{h, h, host(n, n, n), h}, 6)
		}
		for _, h := range []Host{host(n, n, n), host(n, 0, 0), host(0, n, 0), host(0, 0, n)} {
			serve().want(t, []Host{h}, 0, false)
			open(0).want(t, []Host{h}, 0, false)
			open(1).want(t, []Host{h}, 0, true)
			open(1).want(t, []Host{host(0, 0, 0), h}, 0, true)
			open(n).want(t, []Host{h}, 0, false)
			warm(1, 0).want(t, []Host{h}, 0, false)
			warm(1, 1).want(t, []Host{h}, 0, true)
			warm(1, n).want(t, []Host{h}, 0, false)
			wantAll(t, []Host{h}, 0)
		}
		// In what is being made or idle.
		for _, h := range []Host{host(2, n, 3), host(n, 2, 3), host(2, n, n), host(n, 2, n)} {
			warm(9, 2).want(t, []Host{h}, 0, false)
			warm(9, 3).want(t, []Host{h}, 0, true)
		}
	}
}

// P17.1: sums that are more than an int may be are no fewer than any bound, and All stops at the greatest int.
func TestGreatNumbers(t *testing.T) {
	half := most/2 + 1
	for _, h := range []Host{host(most, most, most), host(most, 1, 0), host(1, 0, most), host(0, most, 1), host(half, half, 0), host(half, 0, half), host(0, half, half), host(most, most, 2), host(most, 2, most), host(2, most, most), host(most, 0, 0), host(0, 0, most)} {
		for _, each := range edges() {
			open(each).want(t, []Host{h}, 0, false)
			warm(each, most).want(t, []Host{h}, 0, false)
		}
		open(most).want(t, []Host{h, host(0, 0, most-1), h}, 1, true)
		wantAll(t, []Host{h}, most)
		wantAll(t, []Host{h, h}, most)
		wantAll(t, times(100, h), most)
		wantAll(t, []Host{host(1, 1, 1), h, host(1, 1, 1)}, most)
	}
	// What is below the greatest int is told as it is.
	open(most).want(t, []Host{host(most-1, 0, 0), host(most-2, 0, 0)}, 1, true)
	open(most).want(t, []Host{host(half, half-2, 0), host(half-2, 0, half-1)}, 1, true)
	open(most-1).want(t, []Host{host(most-1, 0, 0), host(0, most-2, 0)}, 1, true)
	warm(most, 2).want(t, []Host{host(1, 0, most-2)}, 0, true)
	warm(most, 2).want(t, []Host{host(1, 0, most-1)}, 0, false)
	warm(most, most).want(t, []Host{host(half, half-2, 0)}, 0, true)
	warm(most, most-1).want(t, []Host{host(half, half-2, 0)}, 0, false)
	wantAll(t, []Host{host(half, 0, 0), host(0, half-2, 0)}, most-1)
	wantAll(t, []Host{host(half, 0, 0), host(0, half-1, 0)}, most)
	wantAll(t, []Host{host(half, 0, 0), host(0, half, 0)}, most)
	wantAll(t, []Host{host(0, 0, 1), host(most-1, 0, 0)}, most)
}

// P17.1: Need.
func TestNeed(t *testing.T) {
	for _, x := range [][3]int{
		{5, 2, 3}, {2, 5, 0}, {5, 5, 0}, {5, 4, 1}, {4, 5, 0}, {1, 0, 1}, {0, 1, 0}, {0, 0, 0}, {16, 0, 16}, {16, 15, 1},
		{-1, 0, 0}, {-5, 2, 0}, {-1, -1, 0}, {-1, -9, 0}, {-9, -1, 0}, {0, -1, 0}, {0, -9, 0}, {5, -1, 5}, {5, -9, 5}, {1, -1, 1},
		{most, 0, most}, {most, 1, most - 1}, {most, most, 0}, {most, most - 1, 1}, {most - 1, most, 0}, {0, most, 0}, {1, most, 0},
		{most, -1, most}, {most, lowest, most}, {most, lowest + 1, most}, {5, lowest, 5}, {1, lowest, 1}, {0, lowest, 0},
		{-1, lowest, 0}, {lowest, 0, 0}, {lowest, 1, 0}, {lowest, -1, 0}, {lowest, lowest, 0}, {lowest, most, 0}, {lowest + 1, most, 0}, {lowest + 1, lowest, 0}, {-2, most, 0},
	} {
		wantNeed(t, x[0], x[1], x[2])
	}
	for _, waiting := range edges() {
		for _, making := range edges() {
			left := plainSum(waiting)
			if left.Sub(left, plainSum(making)).Sign() < 0 {
				left = new(big.Int)
			}
			wantNeed(t, waiting, making, asInt(left))
		}
	}
}

// P17.1: All counts each connection of each host, whatever the host is.
func TestAll(t *testing.T) {
	for _, x := range []struct {
		l    []Host
		want int
	}{
		{nil, 0}, {[]Host{}, 0}, {[]Host{{}}, 0}, {times(100, Host{}), 0},
		{[]Host{host(1, 0, 0)}, 1}, {[]Host{host(0, 1, 0)}, 1}, {[]Host{host(0, 0, 1)}, 1},
		{[]Host{host(1, 2, 4)}, 7}, {[]Host{host(1, 2, 4), host(8, 16, 32)}, 63},
		{[]Host{{Making: 1, Idle: 2, Busy: 4}, host(8, 16, 32)}, 63},
		{in(host(1, 2, 4), act, dra, qua, ret), 28}, {in(Host{Making: 1, Idle: 2, Busy: 4}, act, dra, qua, ret), 28},
		{in(host(1, 2, 4), notActive()...), 7 * len(notActive())},
		{times(100000, host(1, 2, 5)), 800000},
		{[]Host{host(-1, 2, 4), host(1, -2, 4), host(1, 2, -4), host(-1, -2, -4)}, 14},
		{[]Host{host(lowest, 2, 4), host(1, lowest, 4), host(1, 2, lowest), host(lowest, lowest, lowest)}, 14},
		{[]Host{host(-100, 0, 0), host(1, 0, 0)}, 1}, {[]Host{host(1, 0, 0), host(0, 0, -100)}, 1},
	} {
		wantAll(t, x.l, x.want)
	}
}

// R6: what a call answers does not hang on those ahead of it, nor on what becomes of a list behind it.
func TestNothingIsKept(t *testing.T) {
	l := []Host{host(0, 1, 1), host(0, 1, 2)}
	for range 100 {
		serve().want(t, l, 0, true)
		open(4).want(t, l, 0, true)
		warm(4, 2).want(t, l, 0, true)
		wantAll(t, l, 5)
		l[0].State = dra
		serve().want(t, l, 1, true)
		open(4).want(t, l, 1, true)
		warm(4, 2).want(t, l, 1, true)
		wantAll(t, l, 5)
		wantNeed(t, 3, 1, 2)
		l[0].State = act
		open(2).want(t, l, 0, false)
	}
}

// holdEach holds all calls of the list, under these bounds.
func holdEach(t *testing.T, l []Host, each, ready int) {
	t.Helper()
	for _, c := range []chooser{serve(), open(each), warm(each, ready)} {
		c.hold(t, l)
	}
	holdAll(t, l)
}

// someHosts are n of them: mostly Active ones that may be dialled, with numbers that number tells.
func someHosts(r *rand.Rand, n int, number func() int) []Host {
	others := notActive()
	l := make([]Host, n)
	for i := range l {
		l[i] = Host{Making: number(), Idle: number(), Busy: number(), May: r.Intn(4) > 0}
		if r.Intn(3) == 0 {
			l[i].State = others[r.Intn(len(others))]
		}
	}
	return l
}

// someNumbers are ways to tell numbers: few, some below 0, edges, and any.
func someNumbers(r *rand.Rand) []func() int {
	few := edges()
	return []func() int{
		func() int { return r.Intn(4) },
		func() int { return r.Intn(12) - 3 },
		func() int { return few[r.Intn(len(few))] },
		func() int { return int(r.Uint64() >> uint(r.Intn(64))) },
	}
}

// P17.1: all calls of all lists of one or two hosts of few numbers.
func TestShort(t *testing.T) {
	var hosts []Host
	for _, n := range []int{-1, 0, 1, 2} {
		for _, m := range []int{-1, 0, 1} {
			hosts = append(hosts, host(n, m, 1), host(m, 1, n), host(1, n, m), Host{Making: m, Idle: n, Busy: m}, Host{State: dra, Making: m, Idle: n, May: true})
		}
	}
	for _, h := range hosts {
		for each := -1; each <= 5; each++ {
			for ready := -1; ready <= 4; ready++ {
				holdEach(t, []Host{h}, each, ready)
			}
		}
		for _, other := range hosts {
			for each := range 4 {
				holdEach(t, []Host{h, other}, each+1, each)
			}
		}
	}
}

// P17.1: all calls of thousands of mixed lists.
func TestMixed(t *testing.T) {
	r := rand.New(rand.NewSource(170))
	for range 3000 {
		for _, number := range someNumbers(r) {
			l := someHosts(r, r.Intn(12), number)
			holdEach(t, l, number()+r.Intn(3), number()+r.Intn(3))
		}
	}
	for range 30 {
		for _, number := range someNumbers(r) {
			l := someHosts(r, 200+r.Intn(200), number)
			holdEach(t, l, number(), number())
		}
	}
}

// P17.2: no host that is chosen is another than an active one; none that could be is better.
func TestChosenIsActiveAndBest(t *testing.T) {
	r := rand.New(rand.NewSource(171))
	chosen := map[string]int{}
	for range 4000 {
		for _, number := range someNumbers(r) {
			l := someHosts(r, r.Intn(16), number)
			for _, c := range []chooser{serve(), open(number()), warm(number(), number())} {
				k, is := c.call(l)
				if !is {
					if k != 0 || slices.ContainsFunc(l, c.could) {
						t.Errorf("%s of %+v: %d, and none", c.name, l, k)
					}
					continue
				}
				chosen[c.name]++
				if k < 0 || k >= len(l) || l[k].State != act || !c.could(l[k]) {
					t.Fatalf("%s of %+v: %d, which may not be chosen", c.name, l, k)
				}
				for i, h := range l {
					if c.could(h) && (c.better(h, l[k]) || i < k && !c.better(l[k], h)) {
						t.Errorf("%s of %+v: %d, and %d is better", c.name, l, k, i)
					}
				}
			}
		}
	}
	for _, name := range []string{"Serve", "Open", "Warm"} {
		if chosen[name] < 1000 {
			t.Errorf("%s chose %d times: too seldom to tell anything", name, chosen[name])
		}
	}
}
