package pool

import (
	"math"
	"math/rand"
	"slices"
	"testing"

	"hostler/api"
)

// realRoom is the room of a pool that was asked for n.
func realRoom(n int) int {
	switch {
	case n <= 1:
		return 1
	case n < 8:
		return n
	}
	return 8
}

// event is a call that did something, and the id that it did it to.
type event struct {
	name string
	id   int
}

// plain is all calls that did something, in their row: what an id is, is looked up in them each time.
type plain struct {
	room   int
	events []event
}

// last is the place of the id's last event; -1, if it had none.
func (p *plain) last(id int) int {
	for i := len(p.events) - 1; i >= 0; i-- {
		if p.events[i].id == id {
			return i
		}
	}
	return -1
}

// what is the id's last event; none, if it is not there.
func (p *plain) what(id int) string {
	if i := p.last(id); i >= 0 && p.events[i].name != "drop" {
		return p.events[i].name
	}
	return ""
}

// of is the ids whose last event is one of these, in the row of those events.
func (p *plain) of(names ...string) []int {
	var ids []int
	for i, e := range p.events {
		if slices.Contains(names, e.name) && p.last(e.id) == i {
			ids = append(ids, e.id)
		}
	}
	return ids
}

// rising is the list, sorted.
func rising(l []int) []int {
	return slices.Sorted(slices.Values(l))
}

func (p *plain) Making() []int { return rising(p.of("make")) }
func (p *plain) Idle() []int   { return p.of("ready", "give") }
func (p *plain) Busy() []int   { return rising(p.of("take")) }
func (p *plain) All() []int    { return rising(p.of("make", "ready", "give", "take")) }

func (p *plain) Make(id int) api.Errno {
	if p.what(id) != "" {
		return 6
	}
	if len(p.All()) == realRoom(p.room) {
		return 7
	}
	p.events = append(p.events, event{"make", id})
	return 0
}

// change does the call to the id, if it is what it must be for that.
func (p *plain) change(name string, id int, from ...string) bool {
	may := slices.Contains(from, p.what(id))
	if may {
		p.events = append(p.events, event{name, id})
	}
	return may
}

func (p *plain) Ready(id int) bool { return p.change("ready", id, "make") }
func (p *plain) Give(id int) bool  { return p.change("give", id, "take") }
func (p *plain) Drop(id int) bool  { return p.change("drop", id, "make", "ready", "give", "take") }

func (p *plain) Take() (int, bool) {
	l := p.Idle()
	if len(l) == 0 {
		return 0, false
	}
	return l[len(l)-1], p.change("take", l[len(l)-1], "ready", "give")
}

// forget takes out the events that tell nothing any more: without them the plain pool stays quick.
func (p *plain) forget() {
	var left []event
	for i, e := range p.events {
		if p.last(e.id) == i && e.name != "drop" {
			left = append(left, e)
		}
	}
	p.events = left
}

// both is a pool and the plain one beside it: each call is held against the plain one, and all that is told behind it.
type both struct {
	t    *testing.T
	p    *Pool
	q    *plain
	seen []int // all ids that any call was told of
}

func start(t *testing.T, room int) *both {
	t.Helper()
	b := &both{t: t, p: New(room), q: &plain{room: room}, seen: []int{math.MinInt, -1, 0, 1, math.MaxInt}}
	b.hold()
	return b
}

func (b *both) see(id int) {
	if !slices.Contains(b.seen, id) {
		b.seen = append(b.seen, id)
	}
}

// hold asks both all that they tell without a change.
func (b *both) hold() {
	b.t.Helper()
	all := b.q.All()
	for _, x := range []struct {
		name      string
		got, want []int
	}{
		{"Making", b.p.Making(), b.q.Making()},
		{"Idle", b.p.Idle(), b.q.Idle()},
		{"Busy", b.p.Busy(), b.q.Busy()},
		{"All", b.p.All(), all},
	} {
		if !slices.Equal(x.got, x.want) {
			b.t.Fatalf("%s: %v, want %v", x.name, x.got, x.want)
		}
	}
	if n, room := b.p.Len(), b.p.Room(); n != len(all) || n+room != realRoom(b.q.room) {
		b.t.Fatalf("room %d: Len %d, Room %d of %v", b.q.room, n, room, all)
	}
	for _, id := range b.seen {
		if is := b.p.Is(id); is != slices.Contains(all, id) {
			b.t.Fatalf("Is %d: %v of %v", id, is, all)
		}
	}
}

func (b *both) make(id int) api.Errno {
	b.t.Helper()
	b.see(id)
	e := b.p.Make(id)
	if want := b.q.Make(id); e != want {
		b.t.Fatalf("Make %d: %d, want %d", id, e, want)
	}
	b.hold()
	return e
}

func (b *both) ready(id int) bool {
	b.t.Helper()
	b.see(id)
	is := b.p.Ready(id)
	if want := b.q.Ready(id); is != want {
		b.t.Fatalf("Ready %d: %v, want %v", id, is, want)
	}
	b.hold()
	return is
}

func (b *both) take() (int, bool) {
	b.t.Helper()
	id, is := b.p.Take()
	if wantId, wantIs := b.q.Take(); id != wantId || is != wantIs {
		b.t.Fatalf("Take: %d, %v, want %d, %v", id, is, wantId, wantIs)
	}
	b.hold()
	return id, is
}

func (b *both) give(id int) bool {
	b.t.Helper()
	b.see(id)
	is := b.p.Give(id)
	if want := b.q.Give(id); is != want {
		b.t.Fatalf("Give %d: %v, want %v", id, is, want)
	}
	b.hold()
	return is
}

func (b *both) drop(id int) bool {
	b.t.Helper()
	b.see(id)
	is := b.p.Drop(id)
	if want := b.q.Drop(id); is != want {
		b.t.Fatalf("Drop %d: %v, want %v", id, is, want)
	}
	b.hold()
	return is
}

// The checks below hold what was told against what is written out by hand, not against the plain pool alone.

func (b *both) wantMake(id int, want api.Errno) {
	b.t.Helper()
	if e := b.make(id); e != want {
		b.t.Fatalf("Make %d: %d, want %d", id, e, want)
	}
}

func (b *both) wantReady(id int, want bool) {
	b.t.Helper()
	if is := b.ready(id); is != want {
		b.t.Fatalf("Ready %d: %v, want %v", id, is, want)
	}
}

func (b *both) wantTake(want int) {
	b.t.Helper()
	if id, is := b.take(); id != want || !is {
		b.t.Fatalf("Take: %d, %v, want %d", id, is, want)
	}
}

func (b *both) wantNoTake() {
	b.t.Helper()
	if id, is := b.take(); id != 0 || is {
		b.t.Fatalf("Take of none: %d, %v", id, is)
	}
}

func (b *both) wantGive(id int, want bool) {
	b.t.Helper()
	if is := b.give(id); is != want {
		b.t.Fatalf("Give %d: %v, want %v", id, is, want)
	}
}

func (b *both) wantDrop(id int, want bool) {
	b.t.Helper()
	if is := b.drop(id); is != want {
		b.t.Fatalf("Drop %d: %v, want %v", id, is, want)
	}
}

// ids is a list, as it is written out.
func ids(l ...int) []int { return l }

// wantAre holds what is being made, idle and busy, and all that follows of that.
func (b *both) wantAre(room int, making, idle, busy []int) {
	b.t.Helper()
	all := rising(slices.Concat(making, idle, busy))
	if !slices.Equal(b.p.Making(), making) || !slices.Equal(b.p.Idle(), idle) || !slices.Equal(b.p.Busy(), busy) || !slices.Equal(b.p.All(), all) {
		b.t.Fatalf("Making %v, Idle %v, Busy %v, All %v, want %v, %v, %v", b.p.Making(), b.p.Idle(), b.p.Busy(), b.p.All(), making, idle, busy)
	}
	if b.p.Len() != len(all) || b.p.Room() != room {
		b.t.Fatalf("Len %d, Room %d, want %d, %d", b.p.Len(), b.p.Room(), len(all), room)
	}
	for _, id := range all {
		if !b.p.Is(id) {
			b.t.Fatalf("%d is not there, of %v", id, all)
		}
	}
}

// wantAway holds that the id is not there, by all that is told of one.
func (b *both) wantAway(id int) {
	b.t.Helper()
	for _, l := range [][]int{b.p.Making(), b.p.Idle(), b.p.Busy(), b.p.All()} {
		if slices.Contains(l, id) {
			b.t.Fatalf("%d is of %v", id, l)
		}
	}
	if b.p.Is(id) {
		b.t.Fatalf("%d is there", id)
	}
}

// made is a pool of that room in which these are being made.
func made(t *testing.T, room int, l ...int) *both {
	t.Helper()
	b := start(t, room)
	for _, id := range l {
		b.wantMake(id, api.OK)
	}
	return b
}

// rested is a pool of that room in which these are idle, the lowest one first.
func rested(t *testing.T, room int, l ...int) *both {
	t.Helper()
	b := made(t, room, l...)
	for _, id := range l {
		b.wantReady(id, true)
	}
	return b
}

// mixed is a pool with room for 6: 3 and 9 are being made, 4 and 2 are idle, 7 and 5 are busy.
func mixed(t *testing.T) *both {
	t.Helper()
	b := made(t, 6, 9, 7, 2, 3, 4, 5)
	for _, id := range []int{5, 7} {
		b.wantReady(id, true)
		b.wantTake(id)
	}
	b.wantReady(4, true)
	b.wantReady(2, true)
	b.wantAre(0, ids(3, 9), ids(4, 2), ids(5, 7))
	return b
}

// someIds has ids below 0, near each other, and such as are alike if bits are cut off.
func someIds() []int {
	return []int{0, 1, -1, 2, 7, 8, -8, 1 << 31, -1 << 31, 1 << 32, 1<<32 + 1, -1 << 32, 1 << 40, math.MaxInt, math.MaxInt - 1, math.MinInt, math.MinInt + 1}
}

// rows is all rows of so many of these, each with each of them once at most.
func rows(count int, of ...int) [][]int {
	if count == 0 {
		return [][]int{nil}
	}
	var l [][]int
	for i, first := range of {
		for _, rest := range rows(count-1, slices.Delete(slices.Clone(of), i, i+1)...) {
			l = append(l, append([]int{first}, rest...))
		}
	}
	return l
}

// The numbers that these tests write out are those of package api.
func TestTheNumbers(t *testing.T) {
	if api.OK != 0 || api.ErrArg != 1 || api.ErrThere != 6 || api.ErrFull != 7 {
		t.Error("api's numbers are others")
	}
}

// P16.1: made 1, 2, both ready in that row: Take: 2, then 1.
func TestExample(t *testing.T) {
	b := start(t, 2)
	b.wantMake(1, api.OK)
	b.wantMake(2, api.OK)
	b.wantReady(1, true)
	b.wantReady(2, true)
	b.wantTake(2)
	b.wantTake(1)
	b.wantAre(0, nil, nil, ids(1, 2))
}

// P16.1: a pool has room for 1 to 8; of a number out of that it is the nearer one of both.
func TestNew(t *testing.T) {
	for _, x := range [][2]int{
		{1, 1}, {2, 2}, {3, 3}, {4, 4}, {5, 5}, {6, 6}, {7, 7}, {8, 8},
		{0, 1}, {-1, 1}, {-2, 1}, {-8, 1}, {-1 << 32, 1}, {math.MinInt + 1, 1}, {math.MinInt, 1},
		{9, 8}, {10, 8}, {16, 8}, {100, 8}, {1 << 16, 8}, {1 << 32, 8}, {1<<32 + 1, 8}, {math.MaxInt - 1, 8}, {math.MaxInt, 8},
	} {
		b := start(t, x[0])
		b.wantAre(x[1], nil, nil, nil)
		b.wantNoTake()
		var all []int
		for i := range x[1] {
			b.wantMake(100+i, api.OK)
			all = append(all, 100+i)
			b.wantAre(x[1]-i-1, all, nil, nil)
		}
		for range 3 {
			b.wantMake(99, api.ErrFull)
			b.wantAway(99)
		}
		b.wantAre(0, all, nil, nil)
	}
}

// P16.1: one that is there, whatever it is, can't be made, and stays what it is.
func TestMakeThere(t *testing.T) {
	b := mixed(t)
	for range 2 {
		for _, id := range []int{2, 3, 4, 5, 7, 9} {
			b.wantMake(id, api.ErrThere)
			b.wantAre(0, ids(3, 9), ids(4, 2), ids(5, 7))
		}
	}
	roomy := made(t, 8, 1, 2, 3)
	roomy.wantReady(2, true)
	roomy.wantReady(3, true)
	roomy.wantTake(3)
	for _, id := range []int{1, 2, 3} {
		roomy.wantMake(id, api.ErrThere)
		roomy.wantAre(5, ids(1), ids(2), ids(3))
	}
}

// P16.1: a pool is full by what is being made, idle or busy alike.
func TestMakeFull(t *testing.T) {
	for _, b := range []*both{made(t, 3, 1, 2, 3), rested(t, 3, 1, 2, 3)} {
		for id := range 3 {
			b.wantMake(id+10, api.ErrFull)
			b.wantAway(id + 10)
			b.take()
			b.wantMake(id+10, api.ErrFull)
			b.wantReady(id+10, false)
			b.wantGive(id+10, false)
			b.wantDrop(id+10, false)
			b.wantAway(id + 10)
		}
	}
	b := mixed(t)
	b.wantMake(1, api.ErrFull)
	b.wantAway(1)
	b.wantAre(0, ids(3, 9), ids(4, 2), ids(5, 7))
}

// R1: ErrThere is ahead of ErrFull.
func TestMakeThereAndFull(t *testing.T) {
	b := start(t, 1)
	b.wantMake(5, api.OK)
	b.wantMake(5, api.ErrThere)
	b.wantMake(6, api.ErrFull)
	b.wantReady(5, true)
	b.wantMake(5, api.ErrThere)
	b.wantMake(6, api.ErrFull)
	b.wantTake(5)
	b.wantMake(5, api.ErrThere)
	b.wantMake(6, api.ErrFull)
	b.wantAre(0, nil, nil, ids(5))
}

// P16.1: ids may be any numbers, each of them another one.
func TestIds(t *testing.T) {
	for _, id := range someIds() {
		b := start(t, 1)
		b.wantReady(id, false)
		b.wantGive(id, false)
		b.wantDrop(id, false)
		b.wantMake(id, api.OK)
		b.wantAre(0, ids(id), nil, nil)
		b.wantMake(id, api.ErrThere)
		for _, other := range someIds() {
			if other != id {
				b.wantMake(other, api.ErrFull)
				b.wantReady(other, false)
				b.wantDrop(other, false)
				b.wantAway(other)
			}
		}
		b.wantReady(id, true)
		b.wantAre(0, nil, ids(id), nil)
		b.wantTake(id)
		b.wantAre(0, nil, nil, ids(id))
		b.wantGive(id, true)
		b.wantAre(0, nil, ids(id), nil)
		b.wantDrop(id, true)
		b.wantAway(id)
		b.wantAre(1, nil, nil, nil)
	}
	far := ids(math.MaxInt, 0, math.MinInt, -1, 1<<32, 1, math.MinInt+1, 1<<31)
	b := rested(t, 8, far...)
	b.wantAre(0, nil, far, nil)
	for i := len(far) - 1; i >= 0; i-- {
		b.wantTake(far[i])
	}
	b.wantNoTake()
	b.wantAre(0, nil, nil, ids(math.MinInt, math.MinInt+1, -1, 0, 1, 1<<31, 1<<32, math.MaxInt))
}

// P16.1: one that was dropped, whatever it was, may be made again, and is as one that never was.
func TestMakeAgain(t *testing.T) {
	for _, id := range []int{2, 3, 4, 5, 7, 9} {
		b := mixed(t)
		b.wantMake(1, api.ErrFull)
		b.wantDrop(id, true)
		b.wantAway(id)
		b.wantMake(id, api.OK)
		b.wantMake(1, api.ErrFull)
		b.wantGive(id, false)
		if !slices.Contains(b.p.Making(), id) || slices.Contains(b.p.Idle(), id) || slices.Contains(b.p.Busy(), id) {
			t.Fatalf("%d, made again: Making %v, Idle %v, Busy %v", id, b.p.Making(), b.p.Idle(), b.p.Busy())
		}
		b.wantReady(id, true)
		b.wantTake(id)
	}
}

// P16.1: Ready, Give and Drop of one that is being made, idle, busy, or not there.
func TestEachCallOfEach(t *testing.T) {
	for _, x := range []struct {
		id                     int
		ready, give, drop      bool
		readyMaking, readyIdle []int
		giveIdle, giveBusy     []int
		dropMaking, dropIdle   []int
		dropBusy               []int
	}{
		{3, true, false, true, ids(9), ids(4, 2, 3), ids(4, 2), ids(5, 7), ids(9), ids(4, 2), ids(5, 7)},
		{9, true, false, true, ids(3), ids(4, 2, 9), ids(4, 2), ids(5, 7), ids(3), ids(4, 2), ids(5, 7)},
		{4, false, false, true, ids(3, 9), ids(4, 2), ids(4, 2), ids(5, 7), ids(3, 9), ids(2), ids(5, 7)},
		{2, false, false, true, ids(3, 9), ids(4, 2), ids(4, 2), ids(5, 7), ids(3, 9), ids(4), ids(5, 7)},
		{5, false, true, true, ids(3, 9), ids(4, 2), ids(4, 2, 5), ids(7), ids(3, 9), ids(4, 2), ids(7)},
		{7, false, true, true, ids(3, 9), ids(4, 2), ids(4, 2, 7), ids(5), ids(3, 9), ids(4, 2), ids(5)},
		{1, false, false, false, ids(3, 9), ids(4, 2), ids(4, 2), ids(5, 7), ids(3, 9), ids(4, 2), ids(5, 7)},
	} {
		b := mixed(t)
		b.wantReady(x.id, x.ready)
		b.wantAre(0, x.readyMaking, x.readyIdle, ids(5, 7))
		b.wantReady(x.id, false)
		b.wantAre(0, x.readyMaking, x.readyIdle, ids(5, 7))
		b = mixed(t)
		b.wantGive(x.id, x.give)
		b.wantAre(0, ids(3, 9), x.giveIdle, x.giveBusy)
		b.wantGive(x.id, false)
		b.wantAre(0, ids(3, 9), x.giveIdle, x.giveBusy)
		b = mixed(t)
		room := 0
		if x.drop {
			room = 1
		}
		b.wantDrop(x.id, x.drop)
		b.wantAre(room, x.dropMaking, x.dropIdle, x.dropBusy)
		b.wantDrop(x.id, false)
		b.wantAre(room, x.dropMaking, x.dropIdle, x.dropBusy)
		b.wantAway(1)
	}
}

// P16.1: Take of none, though others are being made or busy.
func TestTakeNone(t *testing.T) {
	b := start(t, 3)
	b.wantNoTake()
	b.wantMake(1, api.OK)
	b.wantNoTake()
	b.wantMake(2, api.OK)
	b.wantReady(2, true)
	b.wantTake(2)
	for range 3 {
		b.wantNoTake()
		b.wantAre(1, ids(1), nil, ids(2))
	}
	b.wantDrop(1, true)
	b.wantDrop(2, true)
	b.wantNoTake()
	b.wantAre(3, nil, nil, nil)
}

// P16.1: one of the id 0 is taken as any other is, and is told from none.
func TestIdNone(t *testing.T) {
	b := start(t, 2)
	b.wantMake(0, api.OK)
	b.wantReady(0, true)
	b.wantTake(0)
	b.wantNoTake()
	b.wantGive(0, true)
	b.wantMake(0, api.ErrThere)
	b.wantTake(0)
	b.wantAre(1, nil, nil, ids(0))
}

// P16.1: those that are idle are taken from the one above all others on, in whatever row they were made and came to be so.
func TestTakeMany(t *testing.T) {
	for _, row := range rows(4, 1, 2, 3, 4) {
		for _, came := range rows(4, 1, 2, 3, 4) {
			b := made(t, 4, row...)
			for i, id := range came {
				b.wantReady(id, true)
				b.wantAre(0, rising(came[i+1:]), came[:i+1], nil)
			}
			for i := 3; i >= 0; i-- {
				b.wantTake(came[i])
				b.wantAre(0, nil, came[:i], rising(came[i:]))
			}
			b.wantNoTake()
		}
	}
}

// P16.1: one that is given is above all others, those that were ready behind it being taken ahead of it too, and is taken next.
func TestGive(t *testing.T) {
	for _, row := range rows(4, 1, 2, 3, 4) {
		b := rested(t, 5, 1, 2, 3, 4)
		for id := 4; id >= 1; id-- {
			b.wantTake(id)
		}
		b.wantMake(5, api.OK)
		b.wantReady(5, true)
		for i, id := range row {
			b.wantGive(id, true)
			b.wantAre(0, nil, append(ids(5), row[:i+1]...), rising(row[i+1:]))
			b.wantTake(id)
			b.wantGive(id, true)
			b.wantAre(0, nil, append(ids(5), row[:i+1]...), rising(row[i+1:]))
		}
		for i := 3; i >= 0; i-- {
			b.wantTake(row[i])
		}
		b.wantTake(5)
		b.wantNoTake()
	}
}

// P16.1: one that came by Ready is above one that came by Give ahead of it, and the other way round.
func TestReadyAndGive(t *testing.T) {
	b := made(t, 4, 1, 2, 3, 4)
	b.wantReady(3, true)
	b.wantTake(3)
	b.wantReady(1, true)
	b.wantGive(3, true)
	b.wantReady(4, true)
	b.wantAre(0, ids(2), ids(1, 3, 4), nil)
	b.wantTake(4)
	b.wantReady(2, true)
	b.wantGive(4, true)
	b.wantAre(0, nil, ids(1, 3, 2, 4), nil)
	b.wantTake(4)
	b.wantTake(2)
	b.wantTake(3)
	b.wantGive(2, true)
	b.wantAre(0, nil, ids(1, 2), ids(3, 4))
	b.wantTake(2)
	b.wantTake(1)
	b.wantNoTake()
}

// P16.1: Drop of an idle one, wherever it is: the others stay in their row, and who comes then is above all of them.
func TestDropIdle(t *testing.T) {
	row := ids(6, 1, 8, 3, 5)
	for i, id := range row {
		b := rested(t, 5, row...)
		left := slices.Delete(slices.Clone(row), i, i+1)
		b.wantMake(4, api.ErrFull)
		b.wantDrop(id, true)
		b.wantAway(id)
		b.wantAre(1, nil, left, nil)
		b.wantMake(4, api.OK)
		b.wantMake(7, api.ErrFull)
		b.wantReady(4, true)
		b.wantAre(0, nil, append(slices.Clone(left), 4), nil)
		b.wantTake(4)
		for k := 3; k >= 0; k-- {
			b.wantTake(left[k])
		}
		b.wantNoTake()
	}
}

// P16.1: Drop of two idle ones, in any row.
func TestDropTwoIdle(t *testing.T) {
	for _, out := range rows(2, 1, 2, 3, 4, 5) {
		b := rested(t, 5, 5, 1, 4, 2, 3)
		left := slices.DeleteFunc(ids(5, 1, 4, 2, 3), func(id int) bool { return slices.Contains(out, id) })
		b.wantDrop(out[0], true)
		b.wantDrop(out[1], true)
		b.wantAre(2, nil, left, nil)
		b.wantMake(out[0], api.OK)
		b.wantReady(out[0], true)
		b.wantAre(1, nil, append(left, out[0]), nil)
		b.wantTake(out[0])
		b.wantTake(left[2])
	}
}

// P16.1: Making, Busy and All rise in whatever row they came.
func TestRising(t *testing.T) {
	for _, row := range rows(4, -7, 0, 3, 12) {
		b := start(t, 4)
		for i, id := range row {
			b.wantMake(id, api.OK)
			b.wantAre(3-i, rising(row[:i+1]), nil, nil)
		}
		for i, id := range row {
			b.wantReady(id, true)
			b.wantTake(id)
			b.wantAre(0, rising(row[i+1:]), nil, rising(row[:i+1]))
		}
		if !slices.Equal(b.p.All(), ids(-7, 0, 3, 12)) || !slices.Equal(b.p.Busy(), ids(-7, 0, 3, 12)) {
			t.Fatalf("All %v, Busy %v", b.p.All(), b.p.Busy())
		}
	}
}

// P16.1: Room rises by one with each Drop, whatever was dropped, falls by one with each Make, and stays with all else.
func TestRoom(t *testing.T) {
	for _, row := range rows(3, 4, 5, 9) {
		b := mixed(t)
		for i, id := range row {
			b.wantDrop(id, true)
			if b.p.Room() != i+1 || b.p.Len() != 5-i {
				t.Fatalf("behind %d Drops: Room %d, Len %d", i+1, b.p.Room(), b.p.Len())
			}
			b.wantDrop(id, false)
		}
		b.wantAre(3, ids(3), ids(2), ids(7))
		b.wantReady(3, true)
		b.wantTake(3)
		b.wantGive(7, true)
		b.wantAre(3, nil, ids(2, 7), ids(3))
		for i, id := range row {
			b.wantMake(id, api.OK)
			if b.p.Room() != 2-i || b.p.Len() != 4+i {
				t.Fatalf("behind %d Makes: Room %d, Len %d", i+1, b.p.Room(), b.p.Len())
			}
			b.wantMake(id, api.ErrThere)
		}
		b.wantMake(1, api.ErrFull)
		b.wantAre(0, ids(4, 5, 9), ids(2, 7), ids(3))
	}
}

// P16.1: many more Makes and Drops than there is room for, one behind the other, still find room.
func TestManyMakes(t *testing.T) {
	for _, room := range []int{1, 2, 3, 8} {
		b := start(t, room)
		for i := range 200 {
			b.wantMake(i, api.OK)
			if i%3 > 0 {
				b.wantReady(i, true)
			}
			if i%3 > 1 {
				b.wantTake(i)
			}
			b.wantDrop(i, true)
			b.wantDrop(i, false)
			b.q.forget()
		}
		b.wantAre(room, nil, nil, nil)
		for i := range 200 {
			if i >= room {
				b.wantMake(-1, api.ErrFull)
				b.wantDrop(i-room, true)
			}
			b.wantMake(i, api.OK)
			b.q.forget()
		}
		b.wantMake(-1, api.ErrFull)
	}
}

// P16.2: however many came and went while never none was idle, the one that was idle last is above all others.
func TestAlwaysOneIdle(t *testing.T) {
	p := New(3)
	p.Make(0)
	p.Ready(0)
	for i := 1; i < 100000; i++ {
		p.Make(i)
		p.Ready(i)
		if l := p.Idle(); !slices.Equal(l, ids(i-1, i)) {
			t.Fatalf("Idle: %v", l)
		}
		if id, is := p.Take(); id != i || !is || !p.Give(i) {
			t.Fatalf("Take: %d, %v, want %d", id, is, i)
		}
		if l := p.Idle(); !slices.Equal(l, ids(i-1, i)) || !p.Drop(i-1) {
			t.Fatalf("Idle: %v", l)
		}
	}
}

// R3: a call that tells false, or an error, changes nothing, however often it is called.
func TestRefused(t *testing.T) {
	b := mixed(t)
	for range 100 {
		b.wantMake(1, api.ErrFull)
		b.wantMake(4, api.ErrThere)
		b.wantReady(2, false)
		b.wantReady(4, false)
		b.wantReady(5, false)
		b.wantReady(1, false)
		b.wantGive(4, false)
		b.wantGive(3, false)
		b.wantGive(1, false)
		b.wantDrop(1, false)
		b.wantAre(0, ids(3, 9), ids(4, 2), ids(5, 7))
	}
	b.wantTake(2)
	b.wantTake(4)
	for range 100 {
		b.wantNoTake()
		b.wantGive(9, false)
		b.wantReady(2, false)
	}
	b.wantAre(0, ids(3, 9), nil, ids(2, 4, 5, 7))
}

// R4: what was answered may be written into, and shares nothing with the pool or with another answer.
func TestMemory(t *testing.T) {
	b := mixed(t)
	for _, list := range []func() []int{b.p.Making, b.p.Idle, b.p.Busy, b.p.All} {
		one, other := list(), list()
		want := slices.Clone(other)
		scrawl(one)
		if !slices.Equal(other, want) || !slices.Equal(list(), want) {
			t.Errorf("two answers share memory: %v, %v, want %v", other, list(), want)
		}
		b.hold()
	}
	making, idle, busy, all := b.p.Making(), b.p.Idle(), b.p.Busy(), b.p.All()
	b.wantReady(9, true)
	b.wantDrop(4, true)
	b.wantGive(5, true)
	b.wantMake(1, api.OK)
	if !slices.Equal(making, ids(3, 9)) || !slices.Equal(idle, ids(4, 2)) || !slices.Equal(busy, ids(5, 7)) || !slices.Equal(all, ids(2, 3, 4, 5, 7, 9)) {
		t.Errorf("an answer changed by a later call: %v, %v, %v, %v", making, idle, busy, all)
	}
	for _, l := range [][]int{making, idle, busy, all} {
		scrawl(l)
	}
	b.hold()
	b.wantAre(0, ids(1, 3), ids(2, 9, 5), ids(7))
	b.wantTake(5)
}

// scrawl writes into a list, and into what lies behind it.
func scrawl(l []int) {
	l = l[:cap(l)]
	for i := range l {
		l[i] = -99
	}
	_ = append(l[:0], -98)
}

// R7: every method of nil.
func TestNil(t *testing.T) {
	var p *Pool
	for _, id := range someIds() {
		if e := p.Make(id); e != api.ErrArg {
			t.Errorf("Make %d: %d", id, e)
		}
		if p.Ready(id) || p.Give(id) || p.Drop(id) || p.Is(id) {
			t.Errorf("%d is there", id)
		}
	}
	if id, is := p.Take(); id != 0 || is {
		t.Errorf("Take: %d, %v", id, is)
	}
	if p.Len() != 0 || p.Room() != 0 || len(p.Making()) != 0 || len(p.Idle()) != 0 || len(p.Busy()) != 0 || len(p.All()) != 0 {
		t.Errorf("Len %d, Room %d, All %v", p.Len(), p.Room(), p.All())
	}
}

// T0: a pool that New did not make has no room, and no call waits for any.
func TestUnmade(t *testing.T) {
	p := &Pool{}
	for _, id := range someIds() {
		if e := p.Make(id); e != api.ErrFull {
			t.Errorf("Make %d: %d", id, e)
		}
		if p.Ready(id) || p.Give(id) || p.Drop(id) || p.Is(id) {
			t.Errorf("%d is there", id)
		}
	}
	if id, is := p.Take(); id != 0 || is || p.Len() != 0 || p.Room() != 0 || len(p.All()) != 0 {
		t.Errorf("Take: %d, %v; Len %d, Room %d", id, is, p.Len(), p.Room())
	}
}

// R6: two of these have nothing to do with each other.
func TestApart(t *testing.T) {
	a, b := rested(t, 2, 7, 8), start(t, 2)
	b.wantAway(7)
	b.wantNoTake()
	b.wantAre(2, nil, nil, nil)
	b.wantMake(8, api.OK)
	b.wantDrop(7, false)
	a.wantMake(9, api.ErrFull)
	b.wantMake(9, api.OK)
	b.wantReady(9, true)
	a.wantTake(8)
	b.wantGive(8, false)
	b.wantTake(9)
	a.wantAre(0, nil, ids(7), ids(8))
	b.wantAre(0, ids(8), nil, ids(9))
	b.wantDrop(8, true)
	a.hold()
	r := rand.New(rand.NewSource(3))
	for range 2000 {
		one := a
		if r.Intn(2) == 0 {
			one = b
		}
		anyCall(one, r, 6)
		a.hold()
		b.hold()
		one.q.forget()
	}
}

// anyCall does one call of any kind, with an id of so many, or now and then with one far from them.
func anyCall(b *both, r *rand.Rand, count int) {
	b.t.Helper()
	id := anyId(b.p, r, count)
	if r.Intn(12) == 0 {
		id = someIds()[r.Intn(len(someIds()))]
	}
	switch r.Intn(14) {
	case 0, 1:
		b.take()
	case 2:
		b.drop(id)
	case 3, 4, 5, 6:
		b.give(id)
	case 7, 8, 9, 10:
		b.ready(id)
	default:
		b.make(id)
	}
}

// anyId is one of so many, or as often one that is there: else few calls would do anything.
func anyId(p *Pool, r *rand.Rand, count int) int {
	if all := p.All(); len(all) > 0 && r.Intn(2) == 0 {
		return all[r.Intn(len(all))]
	}
	return r.Intn(count) - 2
}

// P16.1: thousands of calls in mixed rows, of any room, of few ids and of many, answer as the plain pool does; no room is lost, and none won.
func TestAnyRows(t *testing.T) {
	r := rand.New(rand.NewSource(1))
	full, high := 0, 0
	for _, room := range []int{1, 2, 3, 4, 5, 7, 8, 9, 0, -3} {
		for _, count := range []int{3, 10, 20} {
			b := start(t, room)
			for range 2000 {
				anyCall(b, r, count)
				b.q.forget()
				if b.p.Room() == 0 {
					full++
				}
				if len(b.p.Idle()) > 2 {
					high++
				}
			}
			for _, id := range b.p.All() {
				b.wantDrop(id, true)
			}
			b.wantAre(realRoom(room), nil, nil, nil)
			for i := range realRoom(room) {
				b.wantMake(i, api.OK)
			}
			b.wantMake(-1, api.ErrFull)
		}
	}
	if full < 5000 || high < 5000 {
		t.Errorf("full behind %d calls, three or more idle behind %d: too few to tell anything", full, high)
	}
}

// P16.1: all rows of five calls behind four heads.
func TestAllShortRows(t *testing.T) {
	calls := []func(b *both){
		func(b *both) { b.make(1) },
		func(b *both) { b.make(2) },
		func(b *both) { b.ready(1) },
		func(b *both) { b.ready(2) },
		func(b *both) { b.take() },
		func(b *both) { b.give(1) },
		func(b *both) { b.give(2) },
		func(b *both) { b.drop(1) },
		func(b *both) { b.drop(2) },
	}
	heads := []func() *both{
		func() *both { return start(t, 1) },
		func() *both { return made(t, 3, 2, 3) },
		func() *both { return rested(t, 3, 2, 1, 3) },
		func() *both {
			b := rested(t, 3, 2, 3, 1)
			b.wantTake(1)
			return b
		},
	}
	for _, head := range heads {
		for number := range 9 * 9 * 9 * 9 * 9 {
			b := head()
			for range 5 {
				calls[number%9](b)
				number /= 9
			}
		}
	}
}

// P16.2: in many rows of calls each connection is just one of the three, there are never more than there is room for, and the one that was idle last is taken first.
func TestOneOfThree(t *testing.T) {
	r := rand.New(rand.NewSource(2))
	taken, full := 0, 0
	for range 300 {
		room := 1 + r.Intn(8)
		p := New(room)
		there := map[int]int{} // of each that is there: how often it stands in the three lists
		since := map[int]int{} // of each that is idle: the how manieth call let it be so
		for count := range 200 {
			id := anyId(p, r, 12)
			switch r.Intn(9) {
			case 0, 1:
				one, is := p.Take()
				if is != (len(since) > 0) {
					t.Fatalf("%d are idle, and Take told %v", len(since), is)
				}
				for other, n := range since {
					if n > since[one] {
						t.Fatalf("%d was taken ahead of %d, which was idle last", one, other)
					}
				}
				if is {
					taken++
				}
				delete(since, one)
			case 2:
				if _, is := there[id]; p.Drop(id) != is {
					t.Fatalf("Drop of %d, which is there: %v", id, is)
				}
				delete(there, id)
				delete(since, id)
			case 3, 4:
				if p.Ready(id) {
					since[id] = count
				}
			case 5, 6:
				if p.Give(id) {
					since[id] = count
				}
			default:
				_, is := there[id]
				e := p.Make(id)
				if (e == api.OK) != (!is && len(there) < room) {
					t.Fatalf("Make of %d, which is there: %v, with %d of %d: %d", id, is, len(there), room, e)
				}
				if e == api.OK {
					there[id] = 0
				}
			}
			all := p.All()
			if len(all) > room || len(all) != len(there) || p.Len() != len(all) || p.Len()+p.Room() != room {
				t.Fatalf("room %d: All %v, Len %d, Room %d, and %d are there", room, all, p.Len(), p.Room(), len(there))
			}
			full += len(all) / room
			for id := range there {
				there[id] = 0
			}
			for _, id := range slices.Concat(p.Making(), p.Idle(), p.Busy()) {
				there[id]++
			}
			for id, n := range there {
				if n != 1 || !p.Is(id) || !slices.Contains(all, id) {
					t.Fatalf("%d is %d of Making %v, Idle %v, Busy %v; All %v", id, n, p.Making(), p.Idle(), p.Busy(), all)
				}
			}
		}
	}
	if taken < 3000 || full < 3000 {
		t.Errorf("%d were taken, full behind %d calls: too few to tell anything", taken, full)
	}
}

// R6: one row of calls answers the same each time, whatever other pools did meanwhile.
func TestOneAnswer(t *testing.T) {
	tell := func() []int {
		r := rand.New(rand.NewSource(4))
		b := start(t, 8)
		var told []int
		for range 1000 {
			anyCall(b, r, 20)
			b.q.forget()
			told = slices.Concat(told, b.p.Making(), b.p.Idle(), b.p.Busy(), b.p.All())
		}
		return told
	}
	first := tell()
	for range 5 {
		if !slices.Equal(first, tell()) {
			t.Fatal("one row of calls was told in two ways")
		}
	}
}

// What is kept is no more than who is there: a pool in which many came and went has not grown.
func TestWhatIsKept(t *testing.T) {
	p := New(8)
	for i := range 100000 {
		p.Make(i)
		p.Ready(i)
		if i%2 == 0 {
			p.Take()
			p.Give(i)
		}
		p.Drop(i - i%8)
	}
	for _, id := range p.All() {
		p.Drop(id)
	}
	if len(p.conns) != 0 || cap(p.free) != 8 {
		t.Errorf("it keeps %d, and room for %d", len(p.conns), cap(p.free))
	}
}
