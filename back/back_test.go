package back

import (
	"fmt"
	"math"
	"math/rand"
	"slices"
	"strings"
	"testing"

	"hostler/api"
)

const maxTick = 1 << 40

// realTick is layer 1's cut, in other words than the program's.
func realTick(n int) int {
	switch {
	case n <= 0:
		return 0
	case n < maxTick:
		return n
	}
	return maxTick
}

// someTicks are ticks, and numbers that are none.
func someTicks() []int {
	return []int{0, 1, 2, 9, 10, 11, 1 << 31, 1 << 32, maxTick / 2, maxTick - 2, maxTick - 1, maxTick, maxTick + 1, 2 * maxTick, 1 << 62, math.MaxInt - 1, math.MaxInt, -1, -2, -10, -maxTick, -1 << 62, math.MinInt + 1, math.MinInt}
}

// call is one of the seven calls, and what it is handed.
type call struct {
	name string
	a, b int
}

func through(now, deadline int) call { return call{name: "through", a: now, b: deadline} }
func greet(now int) call             { return call{name: "greet", a: now} }
func bind(client int) call           { return call{name: "bind", a: client} }
func sent() call                     { return call{name: "sent"} }
func got() call                      { return call{name: "got"} }
func free(now int) call              { return call{name: "free", a: now} }
func kill() call                     { return call{name: "kill"} }

// do does the call.
func (c call) do(b *Back) bool {
	switch c.name {
	case "through":
		return b.Through(c.a, c.b)
	case "greet":
		return b.Greet(c.a)
	case "bind":
		return b.Bind(c.a)
	case "sent":
		return b.Sent()
	case "got":
		return b.Got()
	case "free":
		return b.Free(c.a)
	case "kill":
		return b.Kill()
	}
	panic("no call " + c.name)
}

// told is what a connection tells of itself.
type told struct {
	state, client, owes, born, deadline, since int
}

func tell(b *Back) told {
	return told{b.State(), b.Client(), b.Owes(), b.Born(), b.Deadline(), b.Since()}
}

// plain is the calls that did anything, in their row: all that is told is looked up in them.
type plain struct {
	calls []call
}

// last is the last call that is neither Sent nor Got, and those two behind it.
func (p *plain) last() (call, []call) {
	for i := len(p.calls) - 1; i >= 0; i-- {
		if name := p.calls[i].name; name != "sent" && name != "got" {
			return p.calls[i], p.calls[i+1:]
		}
	}
	return call{}, nil
}

func (p *plain) tell() told {
	var t told
	if len(p.calls) > 0 && p.calls[0].name == "through" {
		t.born, t.deadline = realTick(p.calls[0].a), realTick(p.calls[0].b)
	}
	last, replies := p.last()
	switch last.name {
	case "":
		t.state = 0
	case "through":
		t.state = 1
	case "greet", "free":
		t.state, t.since = 2, realTick(last.a)
	case "bind":
		t.state, t.client = 3, last.a
		for _, c := range replies {
			t.owes += map[string]int{"sent": 1, "got": -1}[c.name]
		}
	case "kill":
		t.state = 4
	}
	return t
}

// did is whether the call does anything; it is kept, if so.
func (p *plain) did(c call) bool {
	t := p.tell()
	may := map[string]bool{
		"through": t.state == 0,
		"greet":   t.state == 1,
		"bind":    t.state == 2 && c.a > 0,
		"sent":    t.state == 3,
		"got":     t.state == 3 && t.owes != 0,
		"free":    t.state == 3 && t.owes == 0,
		"kill":    t.state != 4,
	}[c.name]
	if may {
		p.calls = append(p.calls, c)
	}
	return may
}

// both is a connection and the plain one beside it: each call is held against the plain one, and all that is told behind it.
type both struct {
	t    *testing.T
	b    *Back
	p    *plain
	host string
}

func start(t *testing.T, calls ...call) *both {
	t.Helper()
	b := &both{t: t, b: New("db"), p: &plain{}, host: "db"}
	b.hold()
	b.wantDid(calls...)
	return b
}

// hold asks both all that they tell without a change, twice.
func (b *both) hold() {
	b.t.Helper()
	want := b.p.tell()
	for range 2 {
		if is := tell(b.b); is != want {
			b.t.Fatalf("it tells %+v, want %+v", is, want)
		}
		if host := b.b.Host(); host != b.host {
			b.t.Fatalf("Host %q, want %q", host, b.host)
		}
		for _, d := range [3]int{-1, 0, 1} {
			b.holdOld(want, want.deadline+d)
			b.holdStale(want, want.since+7+d, 7)
		}
	}
}

func (b *both) holdOld(want told, now int) {
	b.t.Helper()
	old := 1 <= want.state && want.state <= 3 && realTick(now) >= want.deadline
	if is := b.b.Old(now); is != old {
		b.t.Fatalf("Old at %d: %v; it tells %+v", now, is, want)
	}
}

func (b *both) holdStale(want told, now, idle int) {
	b.t.Helper()
	stale := want.state == 2 && realTick(now) >= realTick(want.since+realTick(idle))
	if is := b.b.Stale(now, idle); is != stale {
		b.t.Fatalf("Stale at %d, idle %d: %v; it tells %+v", now, idle, is, want)
	}
}

func (b *both) do(c call) bool {
	b.t.Helper()
	is := c.do(b.b)
	if want := b.p.did(c); is != want {
		b.t.Fatalf("%+v: %v, want %v", c, is, want)
	}
	b.hold()
	return is
}

// The checks below hold what was told against what is written out by hand, not against the plain one alone.

func (b *both) wantDid(calls ...call) {
	b.t.Helper()
	for _, c := range calls {
		if !b.do(c) {
			b.t.Fatalf("%+v: false; it tells %+v", c, tell(b.b))
		}
	}
}

func (b *both) wantNot(calls ...call) {
	b.t.Helper()
	for _, c := range calls {
		ahead := tell(b.b)
		if b.do(c) || tell(b.b) != ahead {
			b.t.Fatalf("%+v did: it tells %+v", c, tell(b.b))
		}
	}
}

func (b *both) want(want told) {
	b.t.Helper()
	if is := tell(b.b); is != want {
		b.t.Fatalf("it tells %+v, want %+v", is, want)
	}
}

// come is a state that was come to: by which calls, what it tells then, and behind each of the calls that do anything
// there, what it tells behind that one.
type come struct {
	by    []call
	is    told
	leads map[call]told
}

// theSeven are the calls that are asked of each state that was come to.
func theSeven() []call {
	return []call{through(20, 200), greet(21), bind(22), sent(), got(), free(23), kill()}
}

// allComings are each of the five states, however it was come to, written out by hand.
func allComings() []come {
	greeted := []call{through(5, 50), greet(7)}
	bound := slices.Concat(greeted, []call{bind(3)})
	one := slices.Concat(bound, []call{sent()})
	many := slices.Concat(one, []call{sent(), sent(), sent()})
	again := slices.Concat(one, []call{got(), free(9)})
	other := slices.Concat(again, []call{bind(4)})
	busy := func(client, owes int) told { return told{3, client, owes, 5, 50, 0} }
	idle := func(since int) told { return told{2, 0, 0, 5, 50, since} }
	dead := told{4, 0, 0, 5, 50, 0}
	none := func(client int) map[call]told {
		return map[call]told{sent(): busy(client, 1), free(23): idle(23), kill(): dead}
	}
	return []come{
		{nil, told{}, map[call]told{through(20, 200): {1, 0, 0, 20, 200, 0}, kill(): {4, 0, 0, 0, 0, 0}}},
		{greeted[:1], told{1, 0, 0, 5, 50, 0}, map[call]told{greet(21): idle(21), kill(): dead}},
		{greeted, idle(7), map[call]told{bind(22): busy(22, 0), kill(): dead}},
		{slices.Concat(bound, []call{free(8)}), idle(8), map[call]told{bind(22): busy(22, 0), kill(): dead}},
		{again, idle(9), map[call]told{bind(22): busy(22, 0), kill(): dead}},
		{slices.Concat(other, []call{free(10)}), idle(10), map[call]told{bind(22): busy(22, 0), kill(): dead}},
		{bound, busy(3, 0), none(3)},
		{slices.Concat(one, []call{got()}), busy(3, 0), none(3)},
		{other, busy(4, 0), none(4)},
		{one, busy(3, 1), map[call]told{sent(): busy(3, 2), got(): busy(3, 0), kill(): dead}},
		{slices.Concat(other, []call{sent()}), busy(4, 1), map[call]told{sent(): busy(4, 2), got(): busy(4, 0), kill(): dead}},
		{many, busy(3, 4), map[call]told{sent(): busy(3, 5), got(): busy(3, 3), kill(): dead}},
		{slices.Concat(many, []call{got()}), busy(3, 3), map[call]told{sent(): busy(3, 4), got(): busy(3, 2), kill(): dead}},
		{[]call{kill()}, told{4, 0, 0, 0, 0, 0}, nil},
		{[]call{through(5, 50), kill()}, dead, nil},
		{slices.Concat(greeted, []call{kill()}), dead, nil},
		{slices.Concat(again, []call{kill()}), dead, nil},
		{slices.Concat(bound, []call{kill()}), dead, nil},
		{slices.Concat(one, []call{kill()}), dead, nil},
		{slices.Concat(many, []call{kill()}), dead, nil},
	}
}

// The numbers that these tests write out are those of the packages.
func TestTheNumbers(t *testing.T) {
	if api.MaxTick != maxTick || Dialing != 0 || Greeting != 1 || Idle != 2 || Busy != 3 || Dead != 4 {
		t.Error("the numbers are others")
	}
}

// P14.1: Through, Greet, Bind of 7, Sent: Free: no; Got, Free: Idle again.
func TestExample(t *testing.T) {
	b := start(t, through(1, 100), greet(2), bind(7), sent())
	b.wantNot(free(3))
	b.want(told{3, 7, 1, 1, 100, 0})
	b.wantDid(got(), free(4))
	b.want(told{2, 0, 0, 1, 100, 4})
}

// P14.1: each of the seven calls from each of the five states, however it was come to.
func TestEachCallFromEachState(t *testing.T) {
	for _, x := range allComings() {
		did := 0
		for _, c := range theSeven() {
			b := start(t, x.by...)
			b.want(x.is)
			behind, does := x.leads[c]
			if !does {
				b.wantNot(c, c)
				b.want(x.is)
				continue
			}
			did++
			b.wantDid(c)
			b.want(behind)
		}
		if did != len(x.leads) {
			t.Errorf("behind %+v %d calls did, want %d", x.by, did, len(x.leads))
		}
	}
}

// R3: behind calls that told false, all go on as if they hadn't been.
func TestWhatARefusedCallLeaves(t *testing.T) {
	for _, x := range allComings() {
		b := start(t, x.by...)
		for _, c := range theSeven() {
			if _, does := x.leads[c]; !does {
				b.wantNot(c)
			}
		}
		b.want(x.is)
		for _, c := range []call{through(30, 300), greet(31), got(), got(), got(), got(), free(32), bind(33), sent(), got(), free(34)} {
			b.do(c)
		}
		switch {
		case x.is.state == 4:
			b.want(x.is)
		case x.is.state == 0:
			b.want(told{2, 0, 0, 30, 300, 34})
		default:
			b.want(told{2, 0, 0, 5, 50, 34})
		}
	}
}

// P14.1: Through keeps the tick and the deadline, both cut, whatever they are, and for good.
func TestThroughOfAnyNumbers(t *testing.T) {
	for _, now := range someTicks() {
		for _, deadline := range someTicks() {
			b := start(t, through(now, deadline))
			b.want(told{1, 0, 0, realTick(now), realTick(deadline), 0})
			b.wantNot(through(3, 4), through(deadline, now))
			b.wantDid(greet(1), bind(2), free(3))
			b.want(told{2, 0, 0, realTick(now), realTick(deadline), 3})
			b.wantDid(kill())
			b.want(told{4, 0, 0, realTick(now), realTick(deadline), 0})
		}
	}
}

// P14.1: the edges of a cut, written out by hand.
func TestCut(t *testing.T) {
	for _, x := range []struct{ n, want int }{
		{math.MinInt, 0}, {-maxTick, 0}, {-1, 0}, {0, 0}, {1, 1}, {maxTick - 1, maxTick - 1}, {maxTick, maxTick}, {maxTick + 1, maxTick}, {math.MaxInt, maxTick},
	} {
		b := start(t, through(x.n, 8))
		b.want(told{1, 0, 0, x.want, 8, 0})
		b = start(t, through(8, x.n))
		b.want(told{1, 0, 0, 8, x.want, 0})
		b.wantDid(greet(x.n))
		b.want(told{2, 0, 0, 8, x.want, x.want})
		b.wantDid(bind(5))
		b.want(told{3, 5, 0, 8, x.want, 0})
		b.wantDid(free(x.n))
		b.want(told{2, 0, 0, 8, x.want, x.want})
		b.wantDid(kill())
		b.want(told{4, 0, 0, 8, x.want, 0})
	}
}

// P14.1: a tick may be ahead of those that were told: nothing is held against them.
func TestTicksInAnyRow(t *testing.T) {
	b := start(t, through(90, 10), greet(50), bind(1), free(20))
	b.want(told{2, 0, 0, 90, 10, 20})
	b.wantDid(bind(2), free(30))
	b.want(told{2, 0, 0, 90, 10, 30})
	b.wantDid(bind(2), free(30))
	b.want(told{2, 0, 0, 90, 10, 30})
}

// P14.1: a client is 1 and more.
func TestBindOfAnyNumbers(t *testing.T) {
	for _, ahead := range [][]call{{through(1, 2), greet(3)}, {through(1, 2), greet(9), bind(6), sent(), got(), free(3)}} {
		for _, client := range []int{math.MinInt, math.MinInt + 1, -1 << 62, -maxTick, -7, -2, -1, 0} {
			b := start(t, ahead...)
			b.wantNot(bind(client))
			b.want(told{2, 0, 0, 1, 2, 3})
			b.wantDid(bind(1))
		}
		for _, client := range []int{1, 2, 7, 1 << 31, 1 << 32, maxTick, maxTick + 1, 1 << 62, math.MaxInt - 1, math.MaxInt} {
			b := start(t, ahead...)
			b.wantDid(bind(client))
			b.want(told{3, client, 0, 1, 2, 0})
		}
	}
}

// P14.1: of one that is Busy the client stays, and so does what is to come.
func TestBindOfABusyOne(t *testing.T) {
	for owes := range 4 {
		b := start(t, through(1, 2), greet(3), bind(7))
		for range owes {
			b.wantDid(sent())
		}
		for _, client := range []int{math.MinInt, -1, 0, 1, 6, 7, 8, math.MaxInt} {
			b.wantNot(bind(client))
			b.want(told{3, 7, owes, 1, 2, 0})
		}
	}
}

// P14.1: one that is free again may get another client, or the same one: no replies are to come.
func TestBindAgain(t *testing.T) {
	b := start(t, through(1, 2), greet(3))
	for _, client := range []int{7, 8, 8, 1, math.MaxInt, 7} {
		b.wantDid(bind(client))
		b.want(told{3, client, 0, 1, 2, 0})
		b.wantNot(got())
		b.wantDid(sent(), sent(), got())
		b.want(told{3, client, 1, 1, 2, 0})
		b.wantNot(free(4))
		b.wantDid(got(), free(4))
		b.want(told{2, 0, 0, 1, 2, 4})
	}
}

// P14.1: many replies, up and down.
func TestReplies(t *testing.T) {
	b := start(t, through(1, 2), greet(3), bind(7))
	b.wantNot(got())
	for _, most := range []int{1, 2, 3, 300, 1} {
		for owes := range most {
			b.wantDid(sent())
			b.want(told{3, 7, owes + 1, 1, 2, 0})
			b.wantNot(free(5))
		}
		for owes := most; owes > 0; owes-- {
			b.wantNot(free(5), bind(8))
			b.wantDid(got())
			b.want(told{3, 7, owes - 1, 1, 2, 0})
		}
		b.wantNot(got(), got(), bind(8))
	}
	b.wantDid(free(5))
	b.want(told{2, 0, 0, 1, 2, 5})
}

// P14.1: more replies than a small number has room for.
func TestVeryManyReplies(t *testing.T) {
	b := New("db")
	b.Through(1, 2)
	b.Greet(3)
	b.Bind(7)
	const most = 70000
	for i := range most {
		if !b.Sent() || b.Owes() != i+1 {
			t.Fatalf("Sent: %d are to come, want %d", b.Owes(), i+1)
		}
	}
	for i := range most {
		if b.Free(5) || !b.Got() || b.Owes() != most-1-i {
			t.Fatalf("Got: %d are to come, want %d", b.Owes(), most-1-i)
		}
	}
	if b.Got() || !b.Free(5) {
		t.Error("Got, or not free, of none to come")
	}
}

// P14.1: of one that is Dead nothing does anything; the host, the tick at which it came through and the deadline stay.
func TestKill(t *testing.T) {
	for _, x := range allComings() {
		b := start(t, x.by...)
		if x.is.state == 4 {
			b.wantNot(kill())
		} else {
			b.wantDid(kill())
		}
		behind := told{4, 0, 0, x.is.born, x.is.deadline, 0}
		b.want(behind)
		for range 2 {
			b.wantNot(theSeven()...)
			b.wantNot(through(0, 0), greet(0), bind(1), bind(0), free(0))
			b.want(behind)
		}
		for _, now := range someTicks() {
			if b.b.Old(now) || b.b.Stale(now, 0) {
				t.Fatalf("a Dead one is old or stale at %d", now)
			}
		}
		if b.b.Host() != "db" {
			t.Errorf("Host %q", b.b.Host())
		}
	}
}

// P14.1: one tick ahead of the deadline, at it, and behind it, in each state.
func TestOld(t *testing.T) {
	for _, x := range allComings() {
		lives := x.is.state == 1 || x.is.state == 2 || x.is.state == 3
		b := start(t, x.by...)
		for _, y := range []struct {
			now int
			old bool
		}{
			{math.MinInt, false}, {-1, false}, {0, false}, {1, false}, {5, false}, {49, false}, {50, true}, {51, true}, {maxTick, true}, {maxTick + 1, true}, {math.MaxInt, true}, {49, false},
		} {
			if old := b.b.Old(y.now); old != (y.old && lives) {
				t.Errorf("Old at %d behind %+v: %v", y.now, x.by, old)
			}
		}
		b.want(x.is)
	}
}

// P14.1: Old of any deadline, at any tick, written out at the edges.
func TestOldOfAnyNumbers(t *testing.T) {
	for _, x := range []struct {
		deadline, now int
		old           bool
	}{
		{0, 0, true}, {0, -1, true}, {0, math.MinInt, true}, {-5, 0, true}, {-5, -9, true}, {math.MinInt, math.MinInt, true}, {1, 0, false}, {1, math.MinInt, false}, {1, 1, true},
		{maxTick, maxTick - 1, false}, {maxTick, maxTick, true}, {maxTick + 1, maxTick - 1, false}, {maxTick + 1, maxTick, true}, {math.MaxInt, maxTick, true}, {math.MaxInt, maxTick - 1, false}, {math.MaxInt, math.MaxInt, true}, {maxTick - 1, maxTick - 1, true}, {maxTick - 1, maxTick - 2, false},
	} {
		b := start(t)
		for _, c := range []call{through(3, x.deadline), greet(4), bind(5), sent(), got(), free(6)} {
			b.wantDid(c)
			if old := b.b.Old(x.now); old != x.old {
				t.Errorf("Old at %d, deadline %d: %v", x.now, x.deadline, old)
			}
		}
	}
	for _, deadline := range someTicks() {
		b := start(t, through(3, deadline))
		for _, now := range someTicks() {
			b.holdOld(b.p.tell(), now)
		}
	}
}

// P14.1: one that is Dialing is never old.
func TestOldWhileDialing(t *testing.T) {
	b := start(t)
	for _, now := range someTicks() {
		if b.b.Old(now) || b.b.Stale(now, 0) {
			t.Errorf("a Dialing one is old or stale at %d", now)
		}
	}
}

// P14.1: one tick ahead of Add of since and idle, at it, and behind it; one that isn't Idle is never stale.
func TestStale(t *testing.T) {
	for _, x := range allComings() {
		b := start(t, x.by...)
		due := x.is.since + 10
		for _, now := range []int{math.MinInt, -1, 0, 1, x.is.since, due - 1, due, due + 1, due + 99, maxTick, math.MaxInt, due - 1} {
			if stale := b.b.Stale(now, 10); stale != (x.is.state == 2 && now >= due) {
				t.Errorf("Stale at %d behind %+v: %v", now, x.by, stale)
			}
		}
		b.want(x.is)
	}
}

// P14.1: Stale of any tick since which it is idle, any idle, at any tick, written out at the edges.
func TestStaleOfAnyNumbers(t *testing.T) {
	for _, x := range []struct {
		since, idle, now int
		stale            bool
	}{
		{7, 0, 6, false}, {7, 0, 7, true}, {7, 0, 8, true}, {7, -1, 6, false}, {7, -1, 7, true}, {7, math.MinInt, 6, false}, {7, math.MinInt, 7, true}, {7, 1, 7, false}, {7, 1, 8, true},
		{7, maxTick, maxTick - 1, false}, {7, maxTick, maxTick, true}, {7, maxTick - 7, maxTick - 1, false}, {7, maxTick - 8, maxTick - 1, true}, {7, maxTick + 1, maxTick - 1, false}, {7, maxTick + 1, maxTick, true}, {7, math.MaxInt, maxTick - 1, false}, {7, math.MaxInt, maxTick, true}, {7, math.MaxInt, math.MaxInt, true}, {7, math.MaxInt, math.MinInt, false},
		{0, 0, math.MinInt, true}, {0, 0, -1, true}, {-9, 0, -1, true}, {-9, 3, 2, false}, {-9, 3, 3, true}, {math.MinInt, math.MinInt, math.MinInt, true}, {math.MinInt, 3, 2, false}, {math.MinInt, 3, 3, true}, {math.MinInt, math.MaxInt, maxTick - 1, false}, {math.MinInt, math.MaxInt, maxTick, true},
		{maxTick, 0, maxTick - 1, false}, {maxTick, 0, maxTick, true}, {maxTick, 1, maxTick, true}, {maxTick + 9, 0, maxTick, true}, {maxTick + 9, 0, maxTick - 1, false}, {math.MaxInt, math.MaxInt, maxTick, true}, {math.MaxInt, math.MaxInt, maxTick - 1, false}, {math.MaxInt, -1, math.MaxInt, true}, {maxTick - 1, 1, maxTick - 1, false}, {maxTick - 1, 1, maxTick, true},
	} {
		first := start(t, through(3, 4), greet(x.since))
		again := start(t, through(3, 4), greet(99), bind(5), free(x.since))
		for _, b := range []*both{first, again} {
			if stale := b.b.Stale(x.now, x.idle); stale != x.stale {
				t.Errorf("Stale at %d, since %d, idle %d: %v", x.now, x.since, x.idle, stale)
			}
			b.wantDid(bind(6))
			if b.b.Stale(x.now, x.idle) {
				t.Errorf("a Busy one is stale at %d, idle %d", x.now, x.idle)
			}
		}
	}
	for _, since := range someTicks() {
		b := start(t, through(3, 4), greet(since))
		for _, idle := range someTicks() {
			for _, now := range someTicks() {
				b.holdStale(b.p.tell(), now, idle)
			}
		}
	}
}

// P14.1: the names of the states; there is none of what is no state.
func TestName(t *testing.T) {
	for i, want := range []string{"dialing", "greeting", "idle", "busy", "dead"} {
		if name := Name(i); name != want {
			t.Errorf("Name %d: %q, want %q", i, name, want)
		}
	}
	for _, state := range []int{-1, -2, -5, math.MinInt, math.MinInt + 3, 5, 6, 7, 1 << 32, 1<<32 + 3, 1 << 62, math.MaxInt} {
		if name := Name(state); name != "" {
			t.Errorf("Name %d: %q", state, name)
		}
	}
}

// P14.1: a host may be any text, and stays.
func TestNew(t *testing.T) {
	for _, host := range []string{"", "db", "db-1.x", " ", "A B", "\x00", "a\nb", "\xff\xfe", "höst", strings.Repeat("long", 5000)} {
		b := &both{t: t, b: New(host), p: &plain{}, host: host}
		b.hold()
		b.want(told{})
		b.wantDid(through(5, 50), greet(7), bind(3), sent(), got(), free(9), kill())
		b.want(told{4, 0, 0, 5, 50, 0})
	}
}

// R7: every method of nil.
func TestNil(t *testing.T) {
	var b *Back
	for _, n := range someTicks() {
		for _, c := range append(theSeven(), through(n, n), greet(n), bind(n), free(n)) {
			if c.do(b) {
				t.Errorf("%+v of nil did", c)
			}
		}
		for _, m := range someTicks() {
			if b.Old(n) || b.Stale(n, m) || b.Through(n, m) {
				t.Errorf("nil is old, stale or through at %d, %d", n, m)
			}
		}
	}
	if is := tell(b); is != (told{state: 4}) || b.Host() != "" {
		t.Errorf("nil tells %+v, of the host %q", is, b.Host())
	}
}

// T0: one that New did not make is as one of no host's name.
func TestUnmade(t *testing.T) {
	b := &both{t: t, b: &Back{}, p: &plain{}}
	b.hold()
	b.want(told{})
	b.wantNot(greet(1), bind(1), sent(), got(), free(1))
	b.wantDid(through(5, 50), greet(7), bind(3), sent(), got(), free(9), bind(4), kill())
}

// R6: two of these have nothing to do with each other.
func TestApart(t *testing.T) {
	a, b := start(t, through(5, 50), greet(7), bind(3), sent()), start(t)
	b.want(told{})
	b.wantDid(through(6, 60))
	a.want(told{3, 3, 1, 5, 50, 0})
	a.wantDid(kill())
	b.wantDid(greet(8), bind(3))
	b.want(told{3, 3, 0, 6, 60, 0})
	b.wantNot(got())
	a.want(told{4, 0, 0, 5, 50, 0})
	r := rand.New(rand.NewSource(3))
	for range 300 {
		a, b := start(t), start(t)
		for range 40 {
			one := a
			if r.Intn(2) == 0 {
				one = b
			}
			one.do(anyCall(r))
			a.hold()
			b.hold()
		}
	}
}

// anyCall is a call of any kind; one that kills is rare, so that rows are long.
func anyCall(r *rand.Rand) call {
	switch r.Intn(40) {
	case 0:
		if r.Intn(10) == 0 {
			return kill()
		}
		return through(anyNumber(r), anyNumber(r))
	case 1, 2:
		return through(anyNumber(r), anyNumber(r))
	case 3, 4:
		return greet(anyNumber(r))
	case 5, 6, 7, 8, 9, 10, 11:
		return bind(anyNumber(r))
	case 12, 13, 14, 15, 16, 17, 18, 19:
		return sent()
	case 20, 21, 22, 23, 24, 25, 26, 27, 28, 29, 30:
		return got()
	}
	return free(anyNumber(r))
}

// anyNumber is one near 0 as a rule.
func anyNumber(r *rand.Rand) int {
	if r.Intn(6) == 0 {
		return someTicks()[r.Intn(len(someTicks()))]
	}
	return r.Intn(60)
}

// P14.1: thousands of calls in mixed rows answer as the plain one does.
func TestAnyRows(t *testing.T) {
	r := rand.New(rand.NewSource(1))
	var seen [5]int
	owed, again := 0, 0
	for range 400 {
		b := start(t)
		for range 200 {
			c := anyCall(r)
			ahead := tell(b.b)
			did := b.do(c)
			seen[ahead.state]++
			if ahead.owes > 1 {
				owed++
			}
			if did && c.name == "free" {
				again++
			}
		}
	}
	if slices.Min(seen[:]) < 500 || owed < 1000 || again < 1000 {
		t.Errorf("too few to tell anything: states %v, %d owed more than one, %d freed", seen, owed, again)
	}
}

// P14.1: all rows of seven calls out of seven.
func TestAllShortRows(t *testing.T) {
	seven := []call{through(4, 40), greet(5), bind(2), sent(), got(), free(6), kill()}
	for number := range 7 * 7 * 7 * 7 * 7 * 7 * 7 {
		b, p := New("db"), &plain{calls: make([]call, 0, 7)}
		for range 7 {
			c := seven[number%7]
			number /= 7
			ahead := p.tell()
			want := ruled(&ahead, c)
			if is := c.do(b); is != want || tell(b) != ahead {
				t.Fatalf("%+v behind %+v: %v, want %v; it tells %+v, want %+v", c, p.calls, is, want, tell(b), ahead)
			}
			if want {
				p.calls = append(p.calls, c)
			}
		}
	}
}

// ruled is the chapter's table, a line a case: it does the call to what is told, and tells whether it did.
func ruled(t *told, c call) bool {
	ahead := *t
	switch {
	case c.name == "through" && t.state == 0:
		t.state, t.born, t.deadline = 1, c.a, c.b
	case c.name == "greet" && t.state == 1:
		t.state, t.since = 2, c.a
	case c.name == "bind" && t.state == 2 && c.a > 0:
		t.state, t.client, t.since = 3, c.a, 0
	case c.name == "sent" && t.state == 3:
		t.owes++
	case c.name == "got" && t.state == 3 && t.owes > 0:
		t.owes--
	case c.name == "free" && t.state == 3 && t.owes == 0:
		t.state, t.client, t.since = 2, 0, c.a
	case c.name == "kill" && t.state != 4:
		t.state, t.client, t.owes, t.since = 4, 0, 0, 0
	}
	return *t != ahead
}

// P14.2: in many rows of calls it has a client just while it is Busy, and a client keeps it until all replies that it
// was told of have come, or it is killed.
func TestAClientKeepsIt(t *testing.T) {
	r := rand.New(rand.NewSource(2))
	bound, freed, killed, kept := 0, 0, 0, 0
	for range 1000 {
		b := New("db")
		client, toCome := 0, 0 // whose it is, and what it was told of replies since
		for range 120 {
			c := anyCall(r)
			did := c.do(b)
			switch {
			case did && c.name == "bind":
				if client != 0 || c.a < 1 {
					t.Fatalf("bound to %d, while %d had it", c.a, client)
				}
				client, toCome = c.a, 0
				bound++
			case did && c.name == "free":
				if client == 0 || toCome != 0 {
					t.Fatalf("free of %d, while %d replies were to come", client, toCome)
				}
				client = 0
				freed++
			case did && c.name == "kill":
				if client != 0 {
					killed++
				}
				client = 0
			case did && c.name == "sent":
				toCome++
			case did && c.name == "got":
				if toCome--; toCome < 0 {
					t.Fatal("a reply came that was not to come")
				}
			case c.name == "free" && client != 0:
				if toCome == 0 {
					t.Fatalf("not free of %d, though all replies have come", client)
				}
				kept++
			}
			if b.Client() != client || (b.State() == Busy) != (client != 0) || client != 0 && b.Owes() != toCome {
				t.Fatalf("behind %+v it tells %+v; %d has it, and %d replies are to come", c, tell(b), client, toCome)
			}
		}
	}
	if bound < 1000 || freed < 1000 || killed < 20 || kept < 1000 {
		t.Errorf("%d were bound, %d freed, %d killed, %d kept: too few to tell anything", bound, freed, killed, kept)
	}
}

// R6: one row of calls answers the same each time, whatever others did meanwhile.
func TestOneAnswer(t *testing.T) {
	row := func() string {
		r := rand.New(rand.NewSource(4))
		b := start(t)
		var all strings.Builder
		for range 300 {
			all.WriteString(fmt.Sprint(b.do(anyCall(r)), tell(b.b)))
		}
		return all.String()
	}
	if first := row(); first != row() {
		t.Error("one row of calls was told in two ways")
	}
}
