package drains

import (
	"fmt"
	"math"
	"math/rand"
	"slices"
	"strings"
	"testing"

	"hostler/api"
)

const maxTick = 1 << 40

// realTick is layer 1's cut, in other words than the program's.
func realTick(n int) int {
	switch {
	case n <= 0:
		return 0
	case n < maxTick:
		return n
	}
	return maxTick
}

// realName is layer 9's rule of a name, in other words than the program's.
func realName(s string) bool {
	return len(s) >= 1 && len(s) <= 16 && strings.Trim(s, "abcdefghijklmnopqrstuvwxyz0123456789.-") == ""
}

// visit is one that was asked, or that began: it is never forgotten, only marked when it is over.
type visit struct {
	name     string
	deadline int
	over     bool
}

// plain is all that was ever asked, and all that ever began, each in its row.
type plain struct {
	asked, begun []visit
}

// open is the place of the name's visit that isn't over; -1, if there is none.
func open(l []visit, name string) int {
	return slices.IndexFunc(l, func(v visit) bool { return v.name == name && !v.over })
}

// still is the names of the visits that aren't over.
func still(l []visit) []string {
	var names []string
	for _, v := range l {
		if !v.over {
			names = append(names, v.name)
		}
	}
	return names
}

// finish marks the name's visit as over, if it has one.
func finish(l []visit, name string) bool {
	i := open(l, name)
	if i >= 0 {
		l[i].over = true
	}
	return i >= 0
}

func (p *plain) ask(name string) api.Errno {
	switch {
	case !realName(name):
		return 11
	case open(p.asked, name) >= 0 || open(p.begun, name) >= 0:
		return 6
	case len(still(p.asked)) == 16:
		return 7
	}
	p.asked = append(p.asked, visit{name: name})
	return 0
}

func (p *plain) begin(name string, deadline int) api.Errno {
	switch {
	case !realName(name):
		return 11
	case open(p.begun, name) >= 0:
		return 6
	}
	finish(p.asked, name)
	p.begun = append(p.begun, visit{name: name, deadline: realTick(deadline)})
	return 0
}

func (p *plain) end(name string) bool {
	waited, ran := finish(p.asked, name), finish(p.begun, name)
	return waited || ran
}

func (p *plain) due(now int) []string {
	var names []string
	for _, v := range p.begun {
		if !v.over && v.deadline <= realTick(now) {
			names = append(names, v.name)
		}
	}
	return names
}

func (p *plain) first(may bool) (string, bool) {
	l := still(p.asked)
	if len(l) == 0 || !may {
		return "", false
	}
	finish(p.asked, l[0])
	return l[0], true
}

func (p *plain) deadline(name string) (int, bool) {
	i := open(p.begun, name)
	if i < 0 {
		return 0, false
	}
	return p.begun[i].deadline, true
}

// both is drains and the plain ones beside them: each call is held against the plain ones, and all that is told behind it.
type both struct {
	t    *testing.T
	d    *Drains
	p    *plain
	seen []string // all names that any call was told of
}

func start(t *testing.T) *both {
	t.Helper()
	b := &both{t: t, d: New(), p: &plain{}, seen: []string{"", "a", "z", "never", "A"}}
	b.hold()
	return b
}

func (b *both) see(name string) {
	if !slices.Contains(b.seen, name) {
		b.seen = append(b.seen, name)
	}
}

// hold asks both all that they tell without a change.
func (b *both) hold() {
	b.t.Helper()
	waits, under := still(b.p.asked), still(b.p.begun)
	if l := b.d.Waits(); !slices.Equal(l, waits) {
		b.t.Fatalf("Waits: %q, want %q", l, waits)
	}
	if l := b.d.Under(); !slices.Equal(l, under) {
		b.t.Fatalf("Under: %q, want %q", l, under)
	}
	for _, name := range b.seen {
		deadline, is := b.d.Deadline(name)
		if wantDeadline, wantIs := b.p.deadline(name); deadline != wantDeadline || is != wantIs {
			b.t.Fatalf("Deadline %q: %d, %v, want %d, %v", name, deadline, is, wantDeadline, wantIs)
		}
		ahead := b.d.Ahead(name)
		if ahead != slices.Index(waits, name) {
			b.t.Fatalf("Ahead %q: %d of %q", name, ahead, waits)
		}
		if is && ahead != -1 {
			b.t.Fatalf("%q waits, and is under way", name)
		}
	}
}

func (b *both) ask(name string) api.Errno {
	b.t.Helper()
	b.see(name)
	e := b.d.Ask(name)
	if want := b.p.ask(name); e != want {
		b.t.Fatalf("Ask %q: %d, want %d", name, e, want)
	}
	b.hold()
	return e
}

func (b *both) begin(name string, deadline int) api.Errno {
	b.t.Helper()
	b.see(name)
	e := b.d.Begin(name, deadline)
	if want := b.p.begin(name, deadline); e != want {
		b.t.Fatalf("Begin %q at %d: %d, want %d", name, deadline, e, want)
	}
	b.hold()
	return e
}

func (b *both) end(name string) bool {
	b.t.Helper()
	b.see(name)
	is := b.d.End(name)
	if want := b.p.end(name); is != want {
		b.t.Fatalf("End %q: %v, want %v", name, is, want)
	}
	b.hold()
	return is
}

// due asks twice: those that are told stay.
func (b *both) due(now int) []string {
	b.t.Helper()
	want := b.p.due(now)
	var l []string
	for range 2 {
		if l = b.d.Due(now); !slices.Equal(l, want) {
			b.t.Fatalf("Due at %d: %q, want %q", now, l, want)
		}
		b.hold()
	}
	return l
}

// first holds that just the first one is asked of the function, and once, or none, if none waits.
func (b *both) first(may bool) (string, bool) {
	b.t.Helper()
	var wantAsked []string
	if l := still(b.p.asked); len(l) > 0 {
		wantAsked = l[:1]
	}
	var asked []string
	name, is := b.d.First(func(name string) bool {
		asked = append(asked, name)
		return may
	})
	if !slices.Equal(asked, wantAsked) {
		b.t.Fatalf("First asked of %q, want %q", asked, wantAsked)
	}
	if wantName, wantIs := b.p.first(may); name != wantName || is != wantIs {
		b.t.Fatalf("First: %q, %v, want %q, %v", name, is, wantName, wantIs)
	}
	b.hold()
	return name, is
}

// The checks below hold what was told against what is written out by hand, not against the plain drains alone.

func (b *both) wantAsk(name string, want api.Errno) {
	b.t.Helper()
	if e := b.ask(name); e != want {
		b.t.Fatalf("Ask %q: %d, want %d", name, e, want)
	}
}

func (b *both) wantBegin(name string, deadline int, want api.Errno) {
	b.t.Helper()
	if e := b.begin(name, deadline); e != want {
		b.t.Fatalf("Begin %q at %d: %d, want %d", name, deadline, e, want)
	}
}

func (b *both) wantEnd(name string, want bool) {
	b.t.Helper()
	if is := b.end(name); is != want {
		b.t.Fatalf("End %q: %v, want %v", name, is, want)
	}
}

func (b *both) wantDue(now int, want ...string) {
	b.t.Helper()
	if l := b.due(now); !slices.Equal(l, want) {
		b.t.Fatalf("Due at %d: %q, want %q", now, l, want)
	}
}

func (b *both) wantFirst(want string) {
	b.t.Helper()
	if name, is := b.first(true); name != want || !is {
		b.t.Fatalf("First: %q, %v, want %q", name, is, want)
	}
}

func (b *both) wantNoFirst(may bool) {
	b.t.Helper()
	if name, is := b.first(may); name != "" || is {
		b.t.Fatalf("First: %q, %v, want none", name, is)
	}
}

// wantWaits holds the row of those that wait, and each one's place in it.
func (b *both) wantWaits(want ...string) {
	b.t.Helper()
	if l := b.d.Waits(); !slices.Equal(l, want) {
		b.t.Fatalf("Waits: %q, want %q", l, want)
	}
	for i, name := range want {
		if ahead := b.d.Ahead(name); ahead != i {
			b.t.Fatalf("Ahead %q: %d, want %d", name, ahead, i)
		}
		if deadline, is := b.d.Deadline(name); deadline != 0 || is {
			b.t.Fatalf("Deadline of %q, which waits: %d, %v", name, deadline, is)
		}
	}
}

// wantUnder holds the row of those under way, and that none of them waits.
func (b *both) wantUnder(want ...string) {
	b.t.Helper()
	if l := b.d.Under(); !slices.Equal(l, want) {
		b.t.Fatalf("Under: %q, want %q", l, want)
	}
	for _, name := range want {
		if ahead := b.d.Ahead(name); ahead != -1 {
			b.t.Fatalf("Ahead of %q, which is under way: %d", name, ahead)
		}
	}
}

func (b *both) wantDeadline(name string, want int) {
	b.t.Helper()
	if deadline, is := b.d.Deadline(name); deadline != want || !is {
		b.t.Fatalf("Deadline %q: %d, %v, want %d", name, deadline, is, want)
	}
}

// wantNeither holds that the name is in none of both, by all that is told of one.
func (b *both) wantNeither(name string) {
	b.t.Helper()
	deadline, is := b.d.Deadline(name)
	if deadline != 0 || is || b.d.Ahead(name) != -1 {
		b.t.Fatalf("%q: Deadline %d, %v, Ahead %d", name, deadline, is, b.d.Ahead(name))
	}
	if slices.Contains(b.d.Waits(), name) || slices.Contains(b.d.Under(), name) || slices.Contains(b.d.Due(maxTick), name) {
		b.t.Fatalf("%q is of %q or %q", name, b.d.Waits(), b.d.Under())
	}
}

// hosts is so many names, each another one.
func hosts(count int) []string {
	var l []string
	for i := range count {
		l = append(l, fmt.Sprint("h", i))
	}
	return l
}

// asked is drains in which these wait.
func asked(t *testing.T, names ...string) *both {
	t.Helper()
	b := start(t)
	for _, name := range names {
		b.wantAsk(name, api.OK)
	}
	return b
}

// noNames are texts that are no names: empty, too long, and with a byte at any place that no name has.
func noNames() []string {
	l := []string{"", strings.Repeat("a", 17), strings.Repeat("a", 32), strings.Repeat("a", 1000), "a,b", "a b", " a", "a\n", "\x00", "a\x00", "é", "a_b", "A", "hosT", "a/b", "*"}
	for i := range 16 {
		l = append(l, strings.Repeat("a", i)+"A"+strings.Repeat("a", 15-i))
	}
	for c := range 256 {
		if s := string([]byte{'a', byte(c)}); !realName(s) {
			l = append(l, s)
		}
	}
	return l
}

// someNames are names at the edges of what may be one.
func someNames() []string {
	return []string{"a", "z", "0", "9", ".", "-", "--", "..", "db-1.x", "aa", "a.", strings.Repeat("a", 15), strings.Repeat("a", 16), strings.Repeat("9", 16), "abcdefghijklmnop", "qrstuvwxyz"}
}

// someTicks are ticks, and numbers that are none.
func someTicks() []int {
	return []int{0, 1, 2, 3, 9, 10, 11, 1 << 31, 1 << 32, maxTick / 2, maxTick - 2, maxTick - 1, maxTick, maxTick + 1, 2 * maxTick, 1 << 62, math.MaxInt - 1, math.MaxInt, -1, -2, -10, -maxTick, -1 << 62, math.MinInt + 1, math.MinInt}
}

// The numbers that these tests write out are those of package api.
func TestTheNumbers(t *testing.T) {
	if api.MaxTick != maxTick || api.OK != 0 || api.ErrArg != 1 || api.ErrThere != 6 || api.ErrFull != 7 || api.ErrName != 11 {
		t.Error("api's numbers are others")
	}
}

// P13.1: asked a, b; a begins at 20: Due at 19 none, at 20 a.
func TestExample(t *testing.T) {
	b := asked(t, "a", "b")
	b.wantBegin("a", 20, api.OK)
	b.wantDue(19)
	b.wantDue(20, "a")
	b.wantDue(21, "a")
	b.wantWaits("b")
	b.wantUnder("a")
	b.wantDeadline("a", 20)
}

// P13.1: new ones have none that waits, and none under way.
func TestNew(t *testing.T) {
	b := start(t)
	b.wantWaits()
	b.wantUnder()
	b.wantDue(maxTick)
	b.wantNoFirst(true)
	b.wantEnd("a", false)
	b.wantNeither("a")
}

// P13.1: Ask of what is no name, whatever else there is; it is in none of both then.
func TestAskNoName(t *testing.T) {
	b := asked(t, "a", "b")
	b.wantBegin("b", 5, api.OK)
	full := asked(t, hosts(16)...)
	for _, name := range noNames() {
		b.wantAsk(name, api.ErrName)
		b.wantNeither(name)
		full.wantAsk(name, api.ErrName)
		full.wantNeither(name)
	}
	b.wantWaits("a")
	b.wantUnder("b")
	full.wantWaits(hosts(16)...)
}

// P13.1: any name may be asked, and each is another one.
func TestAskNames(t *testing.T) {
	names := someNames()
	b := start(t)
	for i, name := range names {
		b.wantNeither(name)
		b.wantAsk(name, api.OK)
		b.wantWaits(names[:i+1]...)
	}
	for i, name := range names {
		b.wantBegin(name, i, api.OK)
		b.wantWaits(names[i+1:]...)
		b.wantUnder(names[:i+1]...)
	}
	for c := range 256 {
		name := string([]byte{byte(c)})
		want := api.OK
		if !realName(name) {
			want = api.ErrName
		}
		fresh := start(t)
		fresh.wantAsk(name, want)
	}
}

// P13.1, R3: Ask of one that waits, or is under way, tells ErrThere and changes nothing.
func TestAskThere(t *testing.T) {
	b := asked(t, "a", "b", "c")
	b.wantBegin("d", 7, api.OK)
	b.wantBegin("b", 9, api.OK)
	for _, name := range []string{"a", "b", "c", "d"} {
		b.wantAsk(name, api.ErrThere)
		b.wantWaits("a", "c")
		b.wantUnder("d", "b")
	}
	b.wantDeadline("d", 7)
	b.wantDeadline("b", 9)
}

// P13.1, R1: 16 may wait, no more; ErrName and ErrThere are ahead of ErrFull; who is refused is in none of both.
func TestAskFull(t *testing.T) {
	names := hosts(16)
	b := asked(t, names[:15]...)
	b.wantAsk("h15", api.OK)
	b.wantBegin("under", 3, api.OK)
	b.wantWaits(names...)
	for range 20 {
		b.wantAsk("more", api.ErrFull)
		b.wantNeither("more")
		b.wantEnd("more", false)
	}
	for _, name := range names {
		b.wantAsk(name, api.ErrThere)
	}
	b.wantAsk("under", api.ErrThere)
	b.wantAsk("", api.ErrName)
	b.wantAsk(strings.Repeat("a", 17), api.ErrName)
	b.wantAsk("More", api.ErrName)
	b.wantWaits(names...)
	b.wantUnder("under")
}

// P13.1: once one waits no more, however that came, there is room for one, and for just one.
func TestRoomAgain(t *testing.T) {
	for _, out := range []func(b *both){
		func(b *both) { b.wantEnd("h0", true) },
		func(b *both) { b.wantFirst("h0") },
		func(b *both) { b.wantBegin("h0", 4, api.OK) },
	} {
		b := asked(t, hosts(16)...)
		b.wantAsk("more", api.ErrFull)
		out(b)
		b.wantWaits(hosts(16)[1:]...)
		b.wantAsk("more", api.OK)
		b.wantAsk("most", api.ErrFull)
		b.wantWaits(append(hosts(16)[1:], "more")...)
	}
}

// P13.1: those under way take no place of those that wait, and there may be any number of them.
func TestManyUnder(t *testing.T) {
	names := hosts(200)
	b := start(t)
	for i, name := range names {
		b.wantBegin(name, 1000-i, api.OK)
	}
	b.wantUnder(names...)
	for i := range 16 {
		b.wantAsk(fmt.Sprint("w", i), api.OK)
	}
	b.wantAsk("w16", api.ErrFull)
	b.wantBegin("more", 1, api.OK)
	b.wantUnder(append(names, "more")...)
	b.wantDue(802, "h198", "h199", "more")
}

// P13.1: Begin of one that waits, wherever it stands: it waits no more, and all others stay in their row.
func TestBeginWaiting(t *testing.T) {
	names := []string{"e", "b", "d", "a", "c"}
	for i, name := range names {
		b := asked(t, names...)
		b.wantBegin("u", 50, api.OK)
		b.wantBegin(name, 10+i, api.OK)
		b.wantWaits(slices.Delete(slices.Clone(names), i, i+1)...)
		b.wantUnder("u", name)
		b.wantDeadline(name, 10+i)
		b.wantDeadline("u", 50)
	}
}

// P13.1: Begin of one that doesn't wait, whether any other waits or not, 16 of them too.
func TestBeginNotWaiting(t *testing.T) {
	b := start(t)
	b.wantBegin("a", 3, api.OK)
	b.wantWaits()
	b.wantUnder("a")
	for _, name := range hosts(16) {
		b.wantAsk(name, api.OK)
	}
	b.wantBegin("b", 2, api.OK)
	b.wantBegin("c", 1, api.OK)
	b.wantWaits(hosts(16)...)
	b.wantUnder("a", "b", "c")
	b.wantAsk("d", api.ErrFull)
}

// P13.1, R3: Begin of one that is under way tells ErrThere, and its deadline and its place stay.
func TestBeginTwice(t *testing.T) {
	b := asked(t, "a", "b")
	b.wantBegin("a", 20, api.OK)
	b.wantBegin("c", 30, api.OK)
	for _, deadline := range append(someTicks(), 19, 20, 21) {
		b.wantBegin("a", deadline, api.ErrThere)
		b.wantBegin("c", deadline, api.ErrThere)
		b.wantDeadline("a", 20)
		b.wantDeadline("c", 30)
		b.wantUnder("a", "c")
		b.wantWaits("b")
	}
	b.wantDue(29, "a")
}

// P13.1: Begin of what is no name.
func TestBeginNoName(t *testing.T) {
	b := asked(t, "a")
	b.wantBegin("b", 5, api.OK)
	for _, name := range noNames() {
		b.wantBegin(name, 5, api.ErrName)
		b.wantNeither(name)
	}
	b.wantWaits("a")
	b.wantUnder("b")
	for _, name := range someNames()[2:] {
		b.wantBegin(name, 6, api.OK)
	}
	b.wantUnder(append([]string{"b"}, someNames()[2:]...)...)
}

// P13.1: a deadline is cut.
func TestBeginCuts(t *testing.T) {
	for _, x := range [][2]int{
		{math.MinInt, 0}, {math.MinInt + 1, 0}, {-maxTick, 0}, {-1, 0}, {0, 0}, {1, 1}, {1 << 32, 1 << 32}, {maxTick - 1, maxTick - 1}, {maxTick, maxTick}, {maxTick + 1, maxTick}, {2 * maxTick, maxTick}, {math.MaxInt - 1, maxTick}, {math.MaxInt, maxTick},
	} {
		b := asked(t, "a")
		b.wantBegin("a", x[0], api.OK)
		b.wantDeadline("a", x[1])
		b.wantBegin("b", x[0], api.OK)
		b.wantDeadline("b", x[1])
		b.wantDue(x[1], "a", "b")
		if x[1] > 0 {
			b.wantDue(x[1] - 1)
		}
	}
}

// P13.1: End of one that waits, of one that is under way, wherever it stands; all others stay in their rows.
func TestEnd(t *testing.T) {
	waits, under := []string{"e", "b", "d", "a", "c"}, []string{"v", "x", "u", "w"}
	whole := func() *both {
		b := asked(t, waits...)
		for i, name := range under {
			b.wantBegin(name, 10*i, api.OK)
		}
		return b
	}
	for i, name := range waits {
		b := whole()
		left := slices.Delete(slices.Clone(waits), i, i+1)
		for _, want := range []bool{true, false, false} {
			b.wantEnd(name, want)
			b.wantNeither(name)
			b.wantWaits(left...)
			b.wantUnder(under...)
		}
	}
	for i, name := range under {
		b := whole()
		left := slices.Delete(slices.Clone(under), i, i+1)
		for _, want := range []bool{true, false, false} {
			b.wantEnd(name, want)
			b.wantNeither(name)
			b.wantWaits(waits...)
			b.wantUnder(left...)
		}
		for _, other := range left {
			b.wantDeadline(other, 10*slices.Index(under, other))
		}
	}
}

// P13.1: End of one in none of both, and of what is no name, tells false and changes nothing.
func TestEndNone(t *testing.T) {
	b := asked(t, "h0", "h1")
	b.wantBegin("h2", 5, api.OK)
	b.wantFirst("h0")
	for _, name := range slices.Concat(someNames(), noNames(), []string{"h0", "h", "h3", "h11", "H1", "h1 "}) {
		b.wantEnd(name, false)
	}
	b.wantWaits("h1")
	b.wantUnder("h2")
}

// P13.1: one that ended may be asked again: it is the last then; and it may begin again, and is the last then too.
func TestAgain(t *testing.T) {
	for _, out := range []func(b *both){
		func(b *both) { b.wantEnd("a", true) },
		func(b *both) { b.wantFirst("a") },
		func(b *both) { b.wantBegin("a", 5, api.OK); b.wantEnd("a", true) },
		func(b *both) { b.wantFirst("a"); b.wantBegin("a", 5, api.OK); b.wantEnd("a", true) },
	} {
		b := asked(t, "a", "b", "c")
		b.wantBegin("u", 40, api.OK)
		out(b)
		b.wantNeither("a")
		b.wantAsk("a", api.OK)
		b.wantAsk("a", api.ErrThere)
		b.wantWaits("b", "c", "a")
		b.wantBegin("a", 9, api.OK)
		b.wantUnder("u", "a")
		b.wantEnd("u", true)
		b.wantBegin("u", 8, api.OK)
		b.wantUnder("a", "u")
		b.wantDeadline("a", 9)
		b.wantDeadline("u", 8)
		b.wantWaits("b", "c")
	}
}

// P13.1: Due tells some out of the middle of the row, or none, or all, in the row in which they began, not by their deadlines.
func TestDue(t *testing.T) {
	b := asked(t, "w")
	for _, x := range []struct {
		name     string
		deadline int
	}{{"c", 30}, {"a", 10}, {"e", 20}, {"b", 10}, {"d", 40}, {"f", 0}} {
		b.wantBegin(x.name, x.deadline, api.OK)
	}
	for _, x := range []struct {
		now int
		due []string
	}{
		{-1, []string{"f"}}, {0, []string{"f"}}, {9, []string{"f"}}, {10, []string{"a", "b", "f"}}, {11, []string{"a", "b", "f"}}, {19, []string{"a", "b", "f"}}, {20, []string{"a", "e", "b", "f"}},
		{30, []string{"c", "a", "e", "b", "f"}}, {39, []string{"c", "a", "e", "b", "f"}}, {40, []string{"c", "a", "e", "b", "d", "f"}}, {41, []string{"c", "a", "e", "b", "d", "f"}}, {maxTick + 5, []string{"c", "a", "e", "b", "d", "f"}},
		{10, []string{"a", "b", "f"}}, {math.MinInt, []string{"f"}},
	} {
		b.wantDue(x.now, x.due...)
		b.wantUnder("c", "a", "e", "b", "d", "f")
	}
	b.wantEnd("f", true)
	b.wantDue(9)
	b.wantEnd("a", true)
	b.wantDue(20, "e", "b")
}

// P13.1: those that wait are never due.
func TestDueWaiting(t *testing.T) {
	b := asked(t, "a", "b")
	for _, now := range someTicks() {
		b.wantDue(now)
	}
	b.wantFirst("a")
	b.wantDue(math.MaxInt)
}

// P13.1: any deadline, at any tick.
func TestDueOfAnyNumbers(t *testing.T) {
	for _, deadline := range someTicks() {
		b := start(t)
		b.wantBegin("a", deadline, api.OK)
		for _, now := range someTicks() {
			b.due(now)
		}
		first := realTick(deadline)
		b.wantDue(first, "a")
		b.wantDue(first+1, "a")
		if first > 0 {
			b.wantDue(first - 1)
		}
	}
}

// P13.1: First tells the first one, which waits no more and is not under way; with none that waits nobody is asked.
func TestFirst(t *testing.T) {
	b := start(t)
	b.wantNoFirst(true)
	b.wantNoFirst(false)
	b.wantBegin("u", 3, api.OK)
	b.wantNoFirst(true)
	for _, name := range []string{"c", "a", "b"} {
		b.wantAsk(name, api.OK)
	}
	b.wantFirst("c")
	b.wantNeither("c")
	b.wantWaits("a", "b")
	b.wantUnder("u")
	b.wantBegin("c", 5, api.OK)
	b.wantAsk("c", api.ErrThere)
	b.wantFirst("a")
	b.wantAsk("a", api.OK)
	b.wantFirst("b")
	b.wantFirst("a")
	b.wantNoFirst(true)
	b.wantUnder("u", "c")
}

// P13.2: one that may not holds up those behind it, though they may: none is told, none goes, and nobody but the first is asked.
func TestFirstMayNot(t *testing.T) {
	b := asked(t, "a", "b", "c")
	for range 5 {
		var got []string
		name, is := b.d.First(func(name string) bool {
			got = append(got, name)
			return name != "a"
		})
		if name != "" || is || !slices.Equal(got, []string{"a"}) {
			t.Fatalf("First: %q, %v, asked of %q", name, is, got)
		}
		b.hold()
		b.wantNoFirst(false)
		b.wantWaits("a", "b", "c")
	}
	b.wantEnd("a", true)
	b.wantNoFirst(false)
	b.wantFirst("b")
	b.wantFirst("c")
}

// T0: where there is no function, or where it panics, nobody may.
func TestFirstOfNoFunction(t *testing.T) {
	for _, may := range []func(string) bool{
		nil,
		func(string) bool { panic("no") },
		func(string) bool { panic(nil) },
		func(string) bool { var l []bool; return l[3] },
		func(string) bool { var p *bool; return *p },
	} {
		b := start(t)
		if name, is := b.d.First(may); name != "" || is {
			t.Fatalf("First: %q, %v", name, is)
		}
		b.wantAsk("a", api.OK)
		b.wantAsk("b", api.OK)
		b.wantBegin("u", 3, api.OK)
		if name, is := b.d.First(may); name != "" || is {
			t.Fatalf("First: %q, %v", name, is)
		}
		b.hold()
		b.wantWaits("a", "b")
		b.wantUnder("u")
		b.wantFirst("a")
	}
}

// T0, P13.1: the function may call what it likes: the one that it was asked of is told, and waits no more; the others are as it left them.
func TestFirstThatCallsBack(t *testing.T) {
	for _, x := range []struct {
		does         func(d *Drains, name string)
		waits, under []string
	}{
		{func(d *Drains, name string) { d.Waits()[0] = "z"; d.Under(); d.Due(9); d.Ahead(name) }, []string{"b", "c"}, nil},
		{func(d *Drains, name string) { d.End(name) }, []string{"b", "c"}, nil},
		{func(d *Drains, name string) { d.Begin(name, 5) }, []string{"b", "c"}, []string{"a"}},
		{func(d *Drains, name string) { d.Ask("d") }, []string{"b", "c", "d"}, nil},
		{func(d *Drains, name string) { d.End(name); d.Ask(name) }, []string{"b", "c"}, nil},
		{func(d *Drains, name string) { d.End("b") }, []string{"c"}, nil},
		{func(d *Drains, name string) { d.End("a"); d.End("b"); d.End("c") }, nil, nil},
		{func(d *Drains, name string) { d.First(func(string) bool { return false }) }, []string{"b", "c"}, nil},
		{func(d *Drains, name string) { d.End("a"); d.First(func(string) bool { return true }) }, []string{"c"}, nil},
	} {
		d := New()
		for _, name := range []string{"a", "b", "c"} {
			d.Ask(name)
		}
		name, is := d.First(func(name string) bool {
			x.does(d, name)
			return true
		})
		if name != "a" || !is || !slices.Equal(d.Waits(), x.waits) || !slices.Equal(d.Under(), x.under) {
			t.Errorf("First: %q, %v; Waits %q, Under %q, want %q, %q", name, is, d.Waits(), d.Under(), x.waits, x.under)
		}
	}
}

// P13.1: what is asked of one in none of both.
func TestAskedOfNone(t *testing.T) {
	b := asked(t, "b")
	b.wantBegin("c", 0, api.OK)
	b.wantDeadline("c", 0)
	for _, name := range append(noNames(), "a", "d", "bb", "cc", "b.", "") {
		b.wantNeither(name)
	}
}

// R4: what was answered may be written into, and shares nothing with the drains or with another answer.
func TestMemory(t *testing.T) {
	b := asked(t, "a", "b", "c", "d")
	for i, name := range []string{"u", "v", "w"} {
		b.wantBegin(name, i, api.OK)
	}
	for _, list := range []func() []string{b.d.Waits, b.d.Under, func() []string { return b.d.Due(maxTick) }, func() []string { return b.d.Due(1) }} {
		one, other := list(), list()
		want := slices.Clone(other)
		scrawl(one)
		if !slices.Equal(other, want) || !slices.Equal(list(), want) {
			t.Errorf("two answers share memory: %q, %q, want %q", other, list(), want)
		}
		b.hold()
	}
	waits, under, due := b.d.Waits(), b.d.Under(), b.d.Due(1)
	b.wantEnd("a", true)
	b.wantEnd("u", true)
	b.wantBegin("c", 9, api.OK)
	b.wantAsk("e", api.OK)
	if !slices.Equal(waits, []string{"a", "b", "c", "d"}) || !slices.Equal(under, []string{"u", "v", "w"}) || !slices.Equal(due, []string{"u", "v"}) {
		t.Errorf("an answer changed by a later call: %q, %q, %q", waits, under, due)
	}
	scrawl(waits)
	scrawl(under)
	scrawl(due)
	b.hold()
	b.wantWaits("b", "d", "e")
	b.wantUnder("v", "w", "c")
}

// scrawl writes into a list, and into what lies behind it.
func scrawl(l []string) {
	l = l[:cap(l)]
	for i := range l {
		l[i] = "scrawl"
	}
	_ = append(l[:0], "more")
}

// R7: every method of nil.
func TestNil(t *testing.T) {
	var d *Drains
	for _, name := range append(noNames(), someNames()...) {
		if e := d.Ask(name); e != api.ErrArg {
			t.Errorf("Ask %q: %d", name, e)
		}
		if e := d.Begin(name, 5); e != api.ErrArg {
			t.Errorf("Begin %q: %d", name, e)
		}
		if d.End(name) {
			t.Errorf("End %q", name)
		}
		if deadline, is := d.Deadline(name); deadline != 0 || is {
			t.Errorf("Deadline %q: %d, %v", name, deadline, is)
		}
		if ahead := d.Ahead(name); ahead != -1 {
			t.Errorf("Ahead %q: %d", name, ahead)
		}
	}
	for _, now := range someTicks() {
		if l := d.Due(now); len(l) != 0 {
			t.Errorf("Due %d: %q", now, l)
		}
	}
	for _, may := range []func(string) bool{nil, func(string) bool { t.Error("asked of nil"); return true }} {
		if name, is := d.First(may); name != "" || is {
			t.Errorf("First: %q, %v", name, is)
		}
	}
	if len(d.Waits()) != 0 || len(d.Under()) != 0 {
		t.Errorf("Waits %q, Under %q", d.Waits(), d.Under())
	}
}

// T0: drains that New did not make are as new ones.
func TestUnmade(t *testing.T) {
	b := &both{t: t, d: &Drains{}, p: &plain{}}
	b.hold()
	b.wantNoFirst(true)
	b.wantAsk("a", api.OK)
	b.wantAsk("b", api.OK)
	b.wantBegin("b", 5, api.OK)
	b.wantFirst("a")
	b.wantUnder("b")
}

// R6: two of these have nothing to do with each other.
func TestApart(t *testing.T) {
	a, b := asked(t, "x", "y"), start(t)
	b.wantNeither("x")
	b.wantAsk("y", api.OK)
	a.wantBegin("y", 5, api.OK)
	b.wantWaits("y")
	b.wantBegin("y", 6, api.OK)
	a.wantDeadline("y", 5)
	b.wantEnd("y", true)
	a.hold()
	a.wantUnder("y")
	for _, name := range hosts(15) {
		a.wantAsk(name, api.OK)
	}
	a.wantAsk("more", api.ErrFull)
	b.wantAsk("more", api.OK)
	r := rand.New(rand.NewSource(3))
	for range 2000 {
		one := a
		if r.Intn(2) == 0 {
			one = b
		}
		anyCall(one, r, 20)
		a.hold()
		b.hold()
	}
}

// anyCall does one call of any kind, with so many names.
func anyCall(b *both, r *rand.Rand, names int) {
	b.t.Helper()
	name := fmt.Sprint("h", r.Intn(names))
	if r.Intn(20) == 0 {
		name = noNames()[r.Intn(len(noNames()))]
	}
	switch r.Intn(24) {
	case 0, 1, 2, 9, 10:
		b.end(name)
	case 3, 4:
		b.begin(name, anyTick(r))
	case 5:
		b.due(anyTick(r))
	case 6:
		b.first(true)
	case 7:
		b.first(false)
	case 8:
		if first, is := b.first(true); is {
			b.begin(first, anyTick(r))
		}
	default:
		b.ask(name)
	}
}

// anyTick is one near 0 as a rule, so that some are due and some not.
func anyTick(r *rand.Rand) int {
	if r.Intn(10) == 0 {
		return someTicks()[r.Intn(len(someTicks()))]
	}
	return r.Intn(60)
}

// P13.1: thousands of calls in mixed rows, of few names and of many, answer as the plain drains do.
func TestAnyRows(t *testing.T) {
	r := rand.New(rand.NewSource(1))
	over := func(v visit) bool { return v.over }
	full := 0
	for _, names := range []int{1, 2, 3, 8, 17, 40, 80} {
		b := start(t)
		for i := range 4000 {
			anyCall(b, r, names)
			if len(b.d.Waits()) == 16 {
				full++
			}
			if i%50 == 0 {
				// Visits that are over tell nothing any more: without them the plain drains stay quick.
				b.p.asked, b.p.begun = slices.DeleteFunc(b.p.asked, over), slices.DeleteFunc(b.p.begun, over)
			}
		}
	}
	if full < 1000 {
		t.Errorf("the row was full behind %d calls only", full)
	}
}

// P13.1: all rows of six calls out of eight.
func TestAllShortRows(t *testing.T) {
	calls := []func(b *both){
		func(b *both) { b.ask("a") },
		func(b *both) { b.ask("b") },
		func(b *both) { b.ask("c") },
		func(b *both) { b.begin("b", 4) },
		func(b *both) { b.begin("a", 2) },
		func(b *both) { b.end("b") },
		func(b *both) { b.first(true) },
		func(b *both) { b.due(3); b.first(false) },
	}
	for number := range 1 << 18 {
		b := &both{t: t, d: New(), p: &plain{}}
		for range 6 {
			calls[number%8](b)
			number /= 8
		}
	}
}

// P13.2: in many rows of calls, drains are told by First, and begin, in the row in which they were asked; one that may not holds up all behind it.
func TestInTheirRow(t *testing.T) {
	r := rand.New(rand.NewSource(2))
	told, held := 0, 0
	for range 300 {
		d := New()
		nth := map[string]int{} // of each that waits: the how manieth it was to be asked
		var began []int         // of each that First told: the same
		for count := range 200 {
			name := fmt.Sprint("h", r.Intn(40))
			switch r.Intn(4) {
			case 0:
				mayNot := fmt.Sprint("h", r.Intn(40))
				if r.Intn(3) == 0 && len(d.Waits()) > 0 {
					mayNot = d.Waits()[0]
				}
				first, is := d.First(func(name string) bool { return name != mayNot })
				_, waits := nth[mayNot]
				if !is {
					for other, n := range nth {
						if !waits || n < nth[mayNot] {
							t.Fatalf("%s waits, and %s alone may not, but none was told", other, mayNot)
						}
					}
					held += min(len(nth), 1)
					continue
				}
				for other, n := range nth {
					if n < nth[first] {
						t.Fatalf("%s was told ahead of %s, which was asked first", first, other)
					}
				}
				began = append(began, nth[first])
				told++
				delete(nth, first)
				if e := d.Begin(first, count); e != api.OK || d.Under()[len(d.Under())-1] != first {
					t.Fatalf("Begin %s: %d; Under %q", first, e, d.Under())
				}
			case 1:
				d.End(name)
				delete(nth, name)
			default:
				if d.Ask(name) == api.OK {
					nth[name] = count
				}
			}
		}
		if !slices.IsSorted(began) {
			t.Fatalf("they began in the row %v", began)
		}
	}
	if told < 1000 || held < 1000 {
		t.Errorf("%d were told, %d held up: too few to tell anything", told, held)
	}
}

// R6: one row of calls answers the same each time, whatever others did meanwhile.
func TestOneAnswer(t *testing.T) {
	tell := func() []string {
		r := rand.New(rand.NewSource(4))
		b := start(t)
		var all []string
		for range 500 {
			anyCall(b, r, 30)
			all = slices.Concat(all, b.d.Waits(), b.d.Under())
		}
		return all
	}
	if first := tell(); !slices.Equal(first, tell()) {
		t.Error("one row of calls was told in two ways")
	}
}

// What is kept is no more than who waits, or is under way: drains in which many came and went have not grown.
func TestWhatIsKept(t *testing.T) {
	d := New()
	for i := range 100000 {
		name := fmt.Sprint("h", i)
		d.Ask(name)
		if i%3 == 0 {
			d.End(name)
			continue
		}
		if first, is := d.First(func(string) bool { return true }); is {
			d.Begin(first, i)
			d.End(first)
		}
	}
	for which, row := range d.rows {
		if len(row) > 0 || cap(row) > 32 {
			t.Errorf("row %d keeps %d of %d", which, len(row), cap(row))
		}
	}
}
