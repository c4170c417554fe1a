package queue

import (
	"math"
	"math/rand"
	"slices"
	"testing"

	"hostler/api"
)

const maxTick = 1 << 40

// realTick is layer 1's cut, in other words than the program's.
func realTick(n int) int {
	switch {
	case n <= 0:
		return 0
	case n < maxTick:
		return n
	}
	return maxTick
}

// realRoom is the room of a queue that was asked for n.
func realRoom(n int) int {
	switch {
	case n <= 0:
		return 0
	case n < 16:
		return n
	}
	return 16
}

// tooLate tells whether one that came at a tick has waited so many at now.
func tooLate(came, wait, now int) bool {
	return realTick(now) >= realTick(realTick(came)+realTick(wait))
}

// visit is one that came: it is never forgotten, only marked when it goes.
type visit struct {
	id, came int
	gone     bool
}

// plain is all visits there ever were, in their row: who waits is looked for in all of them each time.
type plain struct {
	room   int
	visits []visit
}

// waiting is the places of the visits that aren't over.
func (p *plain) waiting() []int {
	var l []int
	for i, v := range p.visits {
		if !v.gone {
			l = append(l, i)
		}
	}
	return l
}

func (p *plain) Push(id, now int) api.Errno {
	if p.Place(id) >= 0 {
		return 6
	}
	if len(p.waiting()) >= realRoom(p.room) {
		return 7
	}
	p.visits = append(p.visits, visit{id: id, came: realTick(now)})
	return 0
}

func (p *plain) Peek() (int, bool) {
	for _, v := range p.visits {
		if !v.gone {
			return v.id, true
		}
	}
	return 0, false
}

func (p *plain) Pop() (int, bool) {
	for i, v := range p.visits {
		if !v.gone {
			p.visits[i].gone = true
			return v.id, true
		}
	}
	return 0, false
}

func (p *plain) Remove(id int) bool {
	for i, v := range p.visits {
		if v.id == id && !v.gone {
			p.visits[i].gone = true
			return true
		}
	}
	return false
}

func (p *plain) Expire(now, wait int) []int {
	var l []int
	for i, v := range p.visits {
		if !v.gone && tooLate(v.came, wait, now) {
			p.visits[i].gone = true
			l = append(l, v.id)
		}
	}
	return l
}

func (p *plain) Len() int  { return len(p.waiting()) }
func (p *plain) Room() int { return realRoom(p.room) - len(p.waiting()) }

func (p *plain) Ids() []int {
	var l []int
	for _, i := range p.waiting() {
		l = append(l, p.visits[i].id)
	}
	return l
}

func (p *plain) Since(id int) (int, bool) {
	for _, v := range p.visits {
		if v.id == id && !v.gone {
			return v.came, true
		}
	}
	return 0, false
}

func (p *plain) Place(id int) int { return slices.Index(p.Ids(), id) }

// both is a queue and the plain one beside it: each call is held against the plain one, and all that is told behind it.
type both struct {
	t    *testing.T
	q    *Queue
	p    *plain
	seen []int // all ids that any call was told of
}

func start(t *testing.T, room int) *both {
	t.Helper()
	b := &both{t: t, q: New(room), p: &plain{room: room}, seen: []int{math.MinInt, -1, 0, 1, math.MaxInt}}
	b.hold()
	return b
}

func (b *both) see(id int) {
	if !slices.Contains(b.seen, id) {
		b.seen = append(b.seen, id)
	}
}

// hold asks both all that they tell without a change.
func (b *both) hold() {
	b.t.Helper()
	ids := b.p.Ids()
	if l := b.q.Ids(); !slices.Equal(l, ids) {
		b.t.Fatalf("Ids: %v, want %v", l, ids)
	}
	if n, room := b.q.Len(), b.q.Room(); n != len(ids) || n+room != realRoom(b.p.room) {
		b.t.Fatalf("room %d: Len %d, Room %d of %v", b.p.room, n, room, ids)
	}
	id, is := b.q.Peek()
	if wantId, wantIs := b.p.Peek(); id != wantId || is != wantIs {
		b.t.Fatalf("Peek: %d, %v, want %d, %v", id, is, wantId, wantIs)
	}
	for _, id := range b.seen {
		at, is := b.q.Since(id)
		if wantAt, wantIs := b.p.Since(id); at != wantAt || is != wantIs {
			b.t.Fatalf("Since %d: %d, %v, want %d, %v", id, at, is, wantAt, wantIs)
		}
		if place := b.q.Place(id); place != slices.Index(ids, id) {
			b.t.Fatalf("Place %d: %d of %v", id, place, ids)
		}
	}
}

func (b *both) push(id, now int) api.Errno {
	b.t.Helper()
	b.see(id)
	e := b.q.Push(id, now)
	if want := b.p.Push(id, now); e != want {
		b.t.Fatalf("Push %d at %d: %d, want %d", id, now, e, want)
	}
	b.hold()
	return e
}

func (b *both) pop() (int, bool) {
	b.t.Helper()
	id, is := b.q.Pop()
	if wantId, wantIs := b.p.Pop(); id != wantId || is != wantIs {
		b.t.Fatalf("Pop: %d, %v, want %d, %v", id, is, wantId, wantIs)
	}
	b.hold()
	return id, is
}

func (b *both) remove(id int) bool {
	b.t.Helper()
	b.see(id)
	is := b.q.Remove(id)
	if want := b.p.Remove(id); is != want {
		b.t.Fatalf("Remove %d: %v, want %v", id, is, want)
	}
	b.hold()
	return is
}

func (b *both) expire(now, wait int) []int {
	b.t.Helper()
	l := b.q.Expire(now, wait)
	if want := b.p.Expire(now, wait); !slices.Equal(l, want) {
		b.t.Fatalf("Expire at %d of %d: %v, want %v", now, wait, l, want)
	}
	b.hold()
	return l
}

// The checks below hold what was told against what is written out by hand, not against the plain queue alone.

func (b *both) wantPush(id, now int, want api.Errno) {
	b.t.Helper()
	if e := b.push(id, now); e != want {
		b.t.Fatalf("Push %d at %d: %d, want %d", id, now, e, want)
	}
}

func (b *both) wantPop(want int) {
	b.t.Helper()
	if id, is := b.pop(); id != want || !is {
		b.t.Fatalf("Pop: %d, %v, want %d", id, is, want)
	}
}

func (b *both) wantNoPop() {
	b.t.Helper()
	if id, is := b.pop(); id != 0 || is {
		b.t.Fatalf("Pop of none: %d, %v", id, is)
	}
}

func (b *both) wantPeek(want int) {
	b.t.Helper()
	if id, is := b.q.Peek(); id != want || !is {
		b.t.Fatalf("Peek: %d, %v, want %d", id, is, want)
	}
	b.hold()
}

func (b *both) wantRemove(id int, want bool) {
	b.t.Helper()
	if is := b.remove(id); is != want {
		b.t.Fatalf("Remove %d: %v, want %v", id, is, want)
	}
}

func (b *both) wantExpire(now, wait int, want ...int) {
	b.t.Helper()
	if l := b.expire(now, wait); !slices.Equal(l, want) {
		b.t.Fatalf("Expire at %d of %d: %v, want %v", now, wait, l, want)
	}
}

// wantRow holds the row and each one's place in it, and that each has just one place.
func (b *both) wantRow(room int, want ...int) {
	b.t.Helper()
	if l := b.q.Ids(); !slices.Equal(l, want) {
		b.t.Fatalf("Ids: %v, want %v", l, want)
	}
	if b.q.Len() != len(want) || b.q.Room() != room {
		b.t.Fatalf("Len %d, Room %d, want %d, %d", b.q.Len(), b.q.Room(), len(want), room)
	}
	for i, id := range want {
		if b.q.Place(id) != i {
			b.t.Fatalf("Place %d: %d, want %d", id, b.q.Place(id), i)
		}
	}
}

func (b *both) wantSince(id, want int) {
	b.t.Helper()
	if at, is := b.q.Since(id); at != want || !is {
		b.t.Fatalf("Since %d: %d, %v, want %d", id, at, is, want)
	}
}

// wantAway holds that the id doesn't wait, by all that is told of one.
func (b *both) wantAway(id int) {
	b.t.Helper()
	at, is := b.q.Since(id)
	if at != 0 || is || b.q.Place(id) != -1 || slices.Contains(b.q.Ids(), id) {
		b.t.Fatalf("%d waits: Since %d, %v, Place %d, Ids %v", id, at, is, b.q.Place(id), b.q.Ids())
	}
}

// filled is a queue of that room in which these wait, each from its place's tick on.
func filled(t *testing.T, room int, ids ...int) *both {
	t.Helper()
	b := start(t, room)
	for i, id := range ids {
		b.wantPush(id, i, 0)
	}
	return b
}

// someIds has ids below 0, near each other, and such as are alike if bits are cut off.
func someIds() []int {
	return []int{0, 1, -1, 2, 7, 16, -16, 1 << 31, -1 << 31, 1 << 32, 1<<32 + 1, -1 << 32, 1 << 40, math.MaxInt, math.MaxInt - 1, math.MinInt, math.MinInt + 1}
}

// someNumbers are ticks and waits, and such as are none.
func someNumbers() []int {
	return []int{0, 1, 2, 3, 9, 10, 11, 1 << 31, 1 << 32, maxTick / 2, maxTick - 2, maxTick - 1, maxTick, maxTick + 1, 2 * maxTick, 1 << 62, math.MaxInt - 1, math.MaxInt, -1, -2, -10, -maxTick, -1 << 62, math.MinInt + 1, math.MinInt}
}

// The numbers that these tests write out are those of package api.
func TestTheNumbers(t *testing.T) {
	if api.MaxTick != maxTick || api.OK != 0 || api.ErrArg != 1 || api.ErrThere != 6 || api.ErrFull != 7 {
		t.Error("api's numbers are others")
	}
}

// P12.1: room 2: 7, 8, then 9 is told ErrFull.
func TestExample(t *testing.T) {
	b := start(t, 2)
	b.wantPush(7, 0, api.OK)
	b.wantPush(8, 0, api.OK)
	b.wantPush(9, 0, api.ErrFull)
	b.wantRow(0, 7, 8)
	b.wantAway(9)
}

// P12.1: a queue has room for 0 to 16; of a number out of that it is the nearer one of both.
func TestNew(t *testing.T) {
	for _, x := range [][2]int{
		{0, 0}, {1, 1}, {2, 2}, {3, 3}, {8, 8}, {15, 15}, {16, 16}, {17, 16}, {18, 16}, {32, 16}, {1 << 16, 16}, {1 << 32, 16}, {1<<32 + 1, 16}, {math.MaxInt - 1, 16}, {math.MaxInt, 16},
		{-1, 0}, {-2, 0}, {-16, 0}, {-1 << 32, 0}, {math.MinInt + 1, 0}, {math.MinInt, 0},
	} {
		b := start(t, x[0])
		b.wantRow(x[1])
		b.wantNoPop()
		b.wantExpire(maxTick, 0)
		for i := range x[1] {
			b.wantPush(100+i, i, api.OK)
		}
		b.wantPush(99, 0, api.ErrFull)
		for i := range x[1] {
			b.wantPush(100+i, 0, api.ErrThere)
		}
		b.wantAway(99)
		if b.q.Len() != x[1] || b.q.Room() != 0 {
			t.Errorf("room %d: Len %d, Room %d", x[0], b.q.Len(), b.q.Room())
		}
		for i := range x[1] {
			b.wantPop(100 + i)
		}
		b.wantNoPop()
		b.wantRow(x[1])
	}
}

// P12.1, R1: ErrThere is ahead of ErrFull, and is told whether there is room or not; neither changes anything.
func TestPushTwice(t *testing.T) {
	b := start(t, 3)
	b.wantPush(5, 10, api.OK)
	b.wantPush(5, 20, api.ErrThere)
	b.wantSince(5, 10)
	b.wantRow(2, 5)
	b.wantPush(6, 11, api.OK)
	b.wantPush(5, 0, api.ErrThere)
	b.wantPush(7, 12, api.OK)
	for _, id := range []int{5, 6, 7} {
		b.wantPush(id, 99, api.ErrThere)
	}
	b.wantPush(8, 99, api.ErrFull)
	b.wantRow(0, 5, 6, 7)
	b.wantSince(5, 10)
	b.wantSince(6, 11)
	b.wantSince(7, 12)
}

// P12.1: ids may be any numbers, each of them another one.
func TestIds(t *testing.T) {
	ids := someIds()[:16]
	b := start(t, 16)
	for i, id := range ids {
		b.wantAway(id)
		b.wantPush(id, i+3, api.OK)
		b.wantSince(id, i+3)
		b.wantRow(15-i, ids[:i+1]...)
	}
	for _, id := range ids {
		b.wantPush(id, 0, api.ErrThere)
	}
	b.wantPush(math.MinInt+1, 0, api.ErrFull)
	for i, id := range ids {
		if i%2 == 0 {
			b.wantPop(id)
		} else {
			b.wantRemove(id, true)
		}
		b.wantAway(id)
	}
	b.wantRow(16)
}

// P12.1: one of the id 0 waits as any other does, and is told from none.
func TestIdNone(t *testing.T) {
	b := start(t, 2)
	b.wantRemove(0, false)
	b.wantPush(0, 0, api.OK)
	b.wantPush(0, 0, api.ErrThere)
	b.wantPeek(0)
	b.wantSince(0, 0)
	b.wantRow(1, 0)
	b.wantPop(0)
	b.wantNoPop()
	b.wantPush(-1, 0, api.OK)
	b.wantPush(0, 0, api.OK)
	b.wantRow(0, -1, 0)
	b.wantExpire(0, 0, -1, 0)
}

// P12.1: the tick at which one came is cut.
func TestPushCuts(t *testing.T) {
	for _, x := range [][2]int{
		{math.MinInt, 0}, {-maxTick, 0}, {-1, 0}, {0, 0}, {1, 1}, {1 << 32, 1 << 32}, {maxTick - 1, maxTick - 1}, {maxTick, maxTick}, {maxTick + 1, maxTick}, {2 * maxTick, maxTick}, {math.MaxInt, maxTick},
	} {
		b := start(t, 1)
		b.wantPush(4, x[0], api.OK)
		b.wantSince(4, x[1])
		b.wantPush(4, 5, api.ErrThere)
		b.wantPush(3, 5, api.ErrFull)
		b.wantSince(4, x[1])
		b.wantAway(3)
	}
}

// R3: who is refused takes no place, is not there, and may come when there is one.
func TestRefused(t *testing.T) {
	b := filled(t, 2, 7, 8)
	for range 100 {
		b.wantPush(9, 5, api.ErrFull)
		b.wantPush(8, 5, api.ErrThere)
		b.wantRemove(9, false)
		b.wantAway(9)
		b.wantRow(0, 7, 8)
	}
	b.wantExpire(maxTick, 0, 7, 8)
	b.wantRow(2)
	b.wantPush(9, 6, api.OK)
	b.wantSince(9, 6)
	b.wantRow(1, 9)
}

// P12.1: Pop takes the first one out, Peek tells it alone; of none both tell 0 and false.
func TestPopAndPeek(t *testing.T) {
	b := start(t, 3)
	for range 3 {
		if id, is := b.q.Peek(); id != 0 || is {
			t.Fatalf("Peek of none: %d, %v", id, is)
		}
		b.wantNoPop()
	}
	b.wantPush(5, 1, api.OK)
	b.wantPeek(5)
	b.wantPeek(5)
	b.wantPop(5)
	b.wantNoPop()
	b.wantRow(3)
	for _, id := range []int{30, 10, 20} {
		b.wantPush(id, 50-id, api.OK)
		b.wantPeek(30)
	}
	b.wantPush(5, 1, api.ErrFull)
	b.wantPop(30)
	b.wantAway(30)
	b.wantPeek(10)
	b.wantRow(1, 10, 20)
	b.wantPush(5, 1, api.OK)
	b.wantPush(6, 1, api.ErrFull)
	b.wantRow(0, 10, 20, 5)
	b.wantPop(10)
	b.wantPop(20)
	b.wantPop(5)
	b.wantNoPop()
	b.wantRow(3)
}

// P12.1: Remove takes one out wherever it stands; the others stay in their row, and its place is free again.
func TestRemove(t *testing.T) {
	ids := []int{4, -2, 9, 0, 7}
	for i, id := range ids {
		b := filled(t, 5, ids...)
		left := slices.Delete(slices.Clone(ids), i, i+1)
		b.wantPush(3, 9, api.ErrFull)
		b.wantRemove(id, true)
		b.wantAway(id)
		b.wantRow(1, left...)
		for _, other := range left {
			b.wantSince(other, slices.Index(ids, other))
		}
		b.wantRemove(id, false)
		b.wantRow(1, left...)
		b.wantPush(3, 9, api.OK)
		b.wantPush(2, 9, api.ErrFull)
		b.wantRow(0, append(left, 3)...)
	}
}

// P12.1: Remove of one that doesn't wait tells false and frees nothing.
func TestRemoveNone(t *testing.T) {
	b := start(t, 2)
	for _, id := range someIds() {
		b.wantRemove(id, false)
	}
	b.wantRow(2)
	b.wantPush(1000, 1, api.OK)
	b.wantPush(2000, 1, api.OK)
	for _, id := range someIds() {
		b.wantRemove(id, false)
		b.wantAway(id)
		b.wantPush(3, 1, api.ErrFull)
	}
	b.wantRow(0, 1000, 2000)
}

// P12.1: one that waited once, however it was taken out, is away.
func TestRemoveGone(t *testing.T) {
	b := filled(t, 3, 1, 2, 3)
	b.wantPop(1)
	b.wantRemove(1, false)
	b.wantExpire(11, 10, 2)
	b.wantRemove(2, false)
	b.wantRow(2, 3)
	b.wantRemove(3, true)
	b.wantRemove(3, false)
	b.wantRow(3)
}

// P12.1: one that was taken out may come again: it is the last then, and came then.
func TestAgain(t *testing.T) {
	for _, out := range []func(b *both){
		func(b *both) { b.wantPop(1) },
		func(b *both) { b.wantRemove(1, true) },
		func(b *both) { b.wantExpire(10, 10, 1) },
	} {
		b := filled(t, 3, 1, 2, 3)
		out(b)
		b.wantAway(1)
		b.wantRow(1, 2, 3)
		b.wantPush(1, 77, api.OK)
		b.wantRow(0, 2, 3, 1)
		b.wantSince(1, 77)
		b.wantPush(1, 78, api.ErrThere)
		b.wantPop(2)
		b.wantPop(3)
		b.wantPop(1)
		b.wantNoPop()
	}
}

// P12.1: Expire at the very tick, one ahead of it, and one behind it.
func TestExpireEdge(t *testing.T) {
	for _, x := range []struct{ came, wait, first int }{
		{0, 0, 0}, {0, 1, 1}, {0, 10, 10}, {5, 10, 15}, {5, 0, 5}, {5, -1, 5}, {5, math.MinInt, 5}, {-5, 10, 10}, {math.MinInt, 10, 10},
		{maxTick - 10, 9, maxTick - 1}, {maxTick - 10, 10, maxTick}, {maxTick - 10, 11, maxTick}, {maxTick, 0, maxTick}, {maxTick, 5, maxTick}, {maxTick + 1, 5, maxTick}, {math.MaxInt, math.MaxInt, maxTick},
		{0, maxTick - 1, maxTick - 1}, {0, maxTick, maxTick}, {0, maxTick + 1, maxTick}, {1, maxTick, maxTick}, {0, math.MaxInt, maxTick}, {7, math.MaxInt, maxTick},
	} {
		b := start(t, 2)
		b.wantPush(8, x.came, api.OK)
		if x.first > 0 {
			b.wantExpire(x.first-1, x.wait)
			b.wantRow(1, 8)
		}
		b.wantExpire(x.first, x.wait, 8)
		b.wantRow(2)
		b.wantExpire(x.first, x.wait)
		b.wantPush(8, x.came, api.OK)
		b.wantExpire(x.first+1, x.wait, 8)
		b.wantPush(8, x.came, api.OK)
		b.wantExpire(math.MaxInt, x.wait, 8)
		b.wantRow(2)
	}
}

// P12.1: any tick at which one came, any wait, any tick at which it is asked.
func TestExpireOfAnyNumbers(t *testing.T) {
	for _, came := range someNumbers() {
		for _, wait := range someNumbers() {
			for _, now := range someNumbers() {
				b := start(t, 1)
				b.push(3, came)
				l := b.expire(now, wait)
				if late := tooLate(came, wait, now); late != (len(l) == 1) || late != (b.q.Room() == 1) {
					t.Fatalf("came %d, wait %d, now %d: %v", came, wait, now, l)
				}
			}
		}
	}
}

// P12.1: ticks below 0 are 0, and those past MaxTick are it; then no wait is too long.
func TestExpireCuts(t *testing.T) {
	for _, now := range []int{0, -1, -maxTick, math.MinInt} {
		b := filled(t, 3, 1, 2, 3)
		b.wantExpire(now, 1)
		b.wantExpire(now, 0, 1)
		b.wantExpire(now, -1)
		b.wantRow(1, 2, 3)
	}
	for _, now := range []int{maxTick, maxTick + 1, 1 << 62, math.MaxInt} {
		for _, wait := range []int{math.MinInt, 0, 1, maxTick, maxTick + 1, math.MaxInt} {
			b := filled(t, 3, 1, 2, 3)
			b.wantPop(1)
			b.wantPush(1, now, api.OK)
			b.wantExpire(now, wait, 2, 3, 1)
			b.wantRow(3)
		}
	}
}

// P12.1: Expire takes out none, some in the middle of the row, or all; each makes room for one.
func TestExpire(t *testing.T) {
	ids := []int{10, 20, 30, 40, 50}
	came := []int{9, 3, 8, 1, 7}
	for _, x := range []struct {
		now  int
		late []int
		left []int
	}{
		{5, nil, ids},
		{6, []int{40}, []int{10, 20, 30, 50}},
		{8, []int{20, 40}, []int{10, 30, 50}},
		{12, []int{20, 40, 50}, []int{10, 30}},
		{13, []int{20, 30, 40, 50}, []int{10}},
		{14, ids, nil},
		{100, ids, nil},
	} {
		b := start(t, 5)
		for i, id := range ids {
			b.wantPush(id, came[i], api.OK)
		}
		b.wantPush(60, 0, api.ErrFull)
		b.wantExpire(x.now, 5, x.late...)
		b.wantRow(len(x.late), x.left...)
		b.wantExpire(x.now, 5)
		b.wantRow(len(x.late), x.left...)
		for i := range x.late {
			b.wantAway(x.late[i])
			b.wantPush(100+i, x.now, api.OK)
		}
		b.wantPush(60, 0, api.ErrFull)
		for _, id := range x.left {
			b.wantSince(id, came[slices.Index(ids, id)])
			b.wantPop(id)
		}
		for i := range x.late {
			b.wantPop(100 + i)
		}
		b.wantRow(5)
	}
}

// P12.1: at one tick a shorter wait may tell more; what was told is told no more.
func TestExpireShorter(t *testing.T) {
	b := filled(t, 4, 1, 2, 3, 4)
	b.wantExpire(10, 10, 1)
	b.wantExpire(10, 10)
	b.wantExpire(10, 8, 2, 3)
	b.wantExpire(9, 7)
	b.wantExpire(10, 7, 4)
	b.wantExpire(10, 0)
	b.wantRow(4)
}

// R4: what was answered may be written into, and shares nothing with the queue or with another answer.
func TestMemory(t *testing.T) {
	b := filled(t, 4, 1, 2, 3, 4)
	ids := b.q.Ids()
	again := b.q.Ids()
	scrawl(ids)
	if !slices.Equal(again, []int{1, 2, 3, 4}) {
		t.Errorf("two answers share memory: %v", again)
	}
	b.hold()
	late := b.expire(11, 10)
	scrawl(late)
	b.hold()
	if !slices.Equal(again, []int{1, 2, 3, 4}) {
		t.Errorf("an answer changed by a later call: %v", again)
	}
	b.wantRow(2, 3, 4)
	b.wantPush(1, 5, api.OK)
	b.wantPush(2, 6, api.OK)
	scrawl(late)
	scrawl(again)
	b.wantRow(0, 3, 4, 1, 2)
	more := b.expire(12, 10)
	kept := slices.Clone(more)
	b.wantExpire(100, 10, 4, 1, 2)
	if !slices.Equal(more, kept) {
		t.Errorf("an answer changed by a later call: %v, was %v", more, kept)
	}
}

// scrawl writes into a list, and into what lies behind it.
func scrawl(l []int) {
	l = l[:cap(l)]
	for i := range l {
		l[i] = -99
	}
	_ = append(l[:0], -98)
}

// R7: every method of nil.
func TestNil(t *testing.T) {
	var q *Queue
	for _, n := range append(someIds(), someNumbers()...) {
		if e := q.Push(n, n); e != api.ErrArg {
			t.Errorf("Push %d: %d", n, e)
		}
		if q.Remove(n) {
			t.Errorf("Remove %d", n)
		}
		if l := q.Expire(n, n); len(l) != 0 {
			t.Errorf("Expire %d: %v", n, l)
		}
		if at, is := q.Since(n); at != 0 || is {
			t.Errorf("Since %d: %d, %v", n, at, is)
		}
		if place := q.Place(n); place != -1 {
			t.Errorf("Place %d: %d", n, place)
		}
	}
	if id, is := q.Pop(); id != 0 || is {
		t.Errorf("Pop: %d, %v", id, is)
	}
	if id, is := q.Peek(); id != 0 || is {
		t.Errorf("Peek: %d, %v", id, is)
	}
	if q.Len() != 0 || q.Room() != 0 || len(q.Ids()) != 0 {
		t.Errorf("Len %d, Room %d, Ids %v", q.Len(), q.Room(), q.Ids())
	}
}

// T0: a queue that New did not make has no room, and no call waits for any.
func TestUnmade(t *testing.T) {
	b := &both{t: t, q: &Queue{}, p: &plain{}, seen: []int{0, 1}}
	b.hold()
	b.wantPush(1, 1, api.ErrFull)
	b.wantNoPop()
	b.wantRemove(1, false)
	b.wantExpire(5, 0)
	b.wantRow(0)
}

// R6: two queues have nothing to do with each other.
func TestApart(t *testing.T) {
	a, b := start(t, 2), start(t, 2)
	a.wantPush(7, 1, api.OK)
	a.wantPush(8, 2, api.OK)
	b.wantAway(7)
	b.wantRow(2)
	b.wantPush(7, 5, api.OK)
	b.wantRemove(8, false)
	a.wantPush(9, 3, api.ErrFull)
	b.wantPush(9, 3, api.OK)
	a.wantSince(7, 1)
	b.wantSince(7, 5)
	b.wantExpire(100, 0, 7, 9)
	a.hold()
	a.wantRow(0, 7, 8)
	a.wantPop(7)
	b.hold()
	b.wantRow(2)
	r := rand.New(rand.NewSource(3))
	for range 2000 {
		both := a
		if r.Intn(2) == 0 {
			both = b
		}
		anyCall(both, r)
		a.hold()
		b.hold()
	}
}

// anyCall does one call of any kind, with ids few enough that many of them wait.
func anyCall(b *both, r *rand.Rand) {
	b.t.Helper()
	id := r.Intn(24) - 4
	if r.Intn(8) == 0 {
		id = someIds()[r.Intn(len(someIds()))]
	}
	switch r.Intn(12) {
	case 0, 1:
		b.pop()
	case 2, 3:
		b.remove(id)
	case 4:
		b.expire(anyTick(r), r.Intn(40))
	default:
		b.push(id, anyTick(r))
	}
}

// anyTick is one near 0 as a rule, so that some are late and some not.
func anyTick(r *rand.Rand) int {
	if r.Intn(10) == 0 {
		return someNumbers()[r.Intn(len(someNumbers()))]
	}
	return r.Intn(60)
}

// P12.1: thousands of calls in mixed rows, of any room, answer as the plain queue does; no place is lost, and none won.
func TestAnyRows(t *testing.T) {
	r := rand.New(rand.NewSource(1))
	for _, room := range []int{0, 1, 2, 3, 5, 8, 15, 16, 17, -3} {
		b := start(t, room)
		for i := range 3000 {
			anyCall(b, r)
			if i%50 == 0 {
				// Visits that are over tell nothing any more: without them the plain queue stays quick.
				b.p.visits = slices.DeleteFunc(b.p.visits, func(v visit) bool { return v.gone })
			}
		}
		b.expire(maxTick, 0)
		b.wantRow(realRoom(room))
		for i := range realRoom(room) {
			b.wantPush(i, 0, api.OK)
		}
		b.wantPush(-1, 0, api.ErrFull)
	}
}

// P12.1: all rows of six calls, of rooms 0 to 3.
func TestAllShortRows(t *testing.T) {
	calls := []func(b *both){
		func(b *both) { b.push(1, 3) },
		func(b *both) { b.push(2, 1) },
		func(b *both) { b.push(3, 2) },
		func(b *both) { b.pop() },
		func(b *both) { b.remove(2) },
		func(b *both) { b.expire(4, 2) },
	}
	for room := range 4 {
		for number := range 6 * 6 * 6 * 6 * 6 * 6 {
			b := start(t, room)
			for range 6 {
				calls[number%6](b)
				number /= 6
			}
		}
	}
}

// P12.2: those that wait are taken out in the row in which they came; never do more wait than there is room for; behind Expire no one is left that came too long ago.
func TestInTheirRow(t *testing.T) {
	r := rand.New(rand.NewSource(2))
	for range 300 {
		room := r.Intn(17)
		q := New(room)
		came := map[int]int{} // of each id that waits: the how manieth it was to come
		at := map[int]int{}   // and when
		count := 0
		out := func(id int) int {
			nth, is := came[id]
			if !is {
				t.Fatalf("%d was told, but did not wait", id)
			}
			delete(came, id)
			delete(at, id)
			return nth
		}
		for range 200 {
			now, wait := anyTick(r), r.Intn(40)
			switch r.Intn(6) {
			case 0:
				if id, is := q.Pop(); is {
					nth := out(id)
					for other, n := range came {
						if n < nth {
							t.Fatalf("%d was taken out ahead of %d, which came first", id, other)
						}
					}
				} else if len(came) > 0 {
					t.Fatalf("%d wait, and none was taken out", len(came))
				}
			case 1:
				last := -1
				for _, id := range q.Expire(now, wait) {
					if !tooLate(at[id], wait, now) {
						t.Fatalf("%d came at %d: it is not too late at %d with %d", id, at[id], now, wait)
					}
					nth := out(id)
					if nth < last {
						t.Fatalf("%d was told behind one that came after it", id)
					}
					last = nth
				}
				for id, tick := range at {
					if tooLate(tick, wait, now) {
						t.Fatalf("%d came at %d, and is left at %d with %d", id, tick, now, wait)
					}
				}
			case 2:
				id := r.Intn(30)
				if _, waits := came[id]; q.Remove(id) != waits {
					t.Fatalf("Remove of %d, which waits: %v", id, waits)
				}
				delete(came, id)
				delete(at, id)
			default:
				id := r.Intn(30)
				_, waits := came[id]
				e := q.Push(id, now)
				if (e == api.OK) != (!waits && len(came) < room) {
					t.Fatalf("Push of %d, which waits: %v, with %d of %d: %d", id, waits, len(came), room, e)
				}
				if e == api.OK {
					came[id], at[id] = count, now
					count++
				}
			}
			if q.Len() != len(came) || q.Len() > room || q.Len()+q.Room() != room {
				t.Fatalf("room %d: %d wait, Len %d, Room %d", room, len(came), q.Len(), q.Room())
			}
		}
	}
}

// R6: one row of calls answers the same each time, whatever other queues did meanwhile.
func TestOneAnswer(t *testing.T) {
	tell := func() []int {
		r := rand.New(rand.NewSource(4))
		b := start(t, 9)
		var told []int
		for range 500 {
			anyCall(b, r)
			told = append(told, b.q.Ids()...)
		}
		return told
	}
	if first := tell(); !slices.Equal(first, tell()) {
		t.Error("one row of calls was told in two ways")
	}
}

// What is kept is no more than who waits: a queue in which many came and went has not grown.
func TestWhatIsKept(t *testing.T) {
	q := New(16)
	for i := range 100000 {
		q.Push(i, i)
		q.Push(-i-1, i)
		if i%3 == 0 {
			q.Expire(i, 5)
		}
		q.Pop()
		q.Remove(-i)
	}
	if len(q.row) > 16 || cap(q.row) > 32 || cap(q.free) != 16 {
		t.Errorf("it keeps %d of %d, and %d places", len(q.row), cap(q.row), cap(q.free))
	}
}
