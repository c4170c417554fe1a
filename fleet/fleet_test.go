package fleet

import (
	"fmt"
	"math"
	"math/big"
	"math/rand"
	"slices"
	"strings"
	"testing"

	"hostler/api"
	"hostler/guard"
)

// The states, the errors and the greatest tick by hand: those of package api are held against them once.
const (
	act = 0
	dra = 1
	qua = 2
	ret = 3

	errArg   = 1
	errNone  = 5
	errThere = 6
	errState = 8
	errGuard = 9
	errName  = 11
	errLong  = 13

	maxTick = 1 << 40
)

// The least and the greatest int.
const (
	lowest = math.MinInt
	most   = math.MaxInt
)

// realTick is layer 1's cut, in other words than the program's.
func realTick(n int) int {
	switch {
	case n <= 0:
		return 0
	case n < maxTick:
		return n
	}
	return maxTick
}

// realName is layer 9's rule of a name, in other words than the program's.
func realName(s string) bool {
	return len(s) >= 1 && len(s) <= 16 && strings.Trim(s, "abcdefghijklmnopqrstuvwxyz0123456789.-") == ""
}

// badNames are such as may not be.
func badNames() []string {
	return []string{"", "A", "a b", "a_b", "a,b", "ä", "a\x00", "a\n", "abcdefghijklmnopq", strings.Repeat("a", 1000)}
}

// one is a host as it is written down plainly: its drain is two numbers of it.
type one struct {
	name     string
	state    int
	leaves   bool
	asked    int // the count of all calls, when its drain was asked; 0: none waits
	began    int // likewise, when it began; 0: none is under way
	deadline int
}

// plain is the chapter's sentences, one by one.
type plain struct {
	each, guard int
	count       int
	hosts       []*one
}

func (p *plain) get(name string) *one {
	for _, h := range p.hosts {
		if h.name == name {
			return h
		}
	}
	return nil
}

// next counts on: what is asked, or begins, later has the greater number.
func (p *plain) next() int {
	p.count++
	return p.count
}

func (p *plain) begin(h *one, deadline int) {
	h.asked, h.began, h.deadline = 0, p.next(), realTick(deadline)
}

func (p *plain) actives() int {
	n := 0
	for _, h := range p.hosts {
		if h.state == act {
			n++
		}
	}
	return n
}

// all is the capacity of so many Active hosts, without a bound.
func (p *plain) all(hosts int) *big.Int {
	return new(big.Int).Mul(big.NewInt(int64(hosts)), big.NewInt(int64(max(p.each, 0))))
}

func (p *plain) capacity() int {
	all := p.all(p.actives())
	if !all.IsInt64() {
		return most
	}
	return int(all.Int64())
}

func (p *plain) mayLeave(h *one) bool {
	return h.state != act || p.all(p.actives()-1).Cmp(big.NewInt(int64(p.guard))) >= 0
}

// row is the hosts that have such a number, as the numbers rise.
func (p *plain) row(number func(h *one) int) []*one {
	var l []*one
	for _, h := range p.hosts {
		if number(h) > 0 {
			l = append(l, h)
		}
	}
	slices.SortFunc(l, func(a, b *one) int { return number(a) - number(b) })
	return l
}

func (p *plain) waits() []*one {
	return p.row(func(h *one) int { return h.asked })
}

func (p *plain) under() []*one {
	return p.row(func(h *one) int { return h.began })
}

func check(l []string) api.Errno {
	if len(l) > 16 {
		return errLong
	}
	for _, name := range l {
		if !realName(name) {
			return errName
		}
	}
	for i, name := range l {
		if slices.Index(l, name) != i {
			return errThere
		}
	}
	return 0
}

func (p *plain) resolve(l []string, deadline int) ([]string, []string, api.Errno) {
	if e := check(l); e != 0 {
		return nil, nil, e
	}
	var came, left []string
	for _, h := range slices.Clone(p.hosts) {
		if slices.Contains(l, h.name) || h.leaves {
			continue
		}
		left = append(left, h.name)
		h.asked = 0
		h.leaves = true
		switch h.state {
		case ret:
			p.remove(h)
		case act, qua:
			h.state = dra
			p.begin(h, deadline)
		}
	}
	for _, name := range l {
		h := p.get(name)
		if h == nil {
			p.hosts = append(p.hosts, &one{name: name})
			came = append(came, name)
		} else if h.leaves {
			*h = one{name: name}
			came = append(came, name)
		}
	}
	return came, left, 0
}

func (p *plain) remove(h *one) {
	p.hosts = slices.DeleteFunc(p.hosts, func(o *one) bool { return o == h })
}

// named is the host, or the error that is ahead of all others.
func (p *plain) named(name string) (*one, api.Errno) {
	if !realName(name) {
		return nil, errName
	}
	h := p.get(name)
	if h == nil {
		return nil, errNone
	}
	return h, 0
}

func (p *plain) drain(name string) api.Errno {
	h, e := p.named(name)
	switch {
	case e != 0:
		return e
	case h.state == dra || h.state == ret:
		return errState
	case h.asked > 0:
		return errThere
	}
	h.asked = p.next()
	return 0
}

func (p *plain) undrain(name string) api.Errno {
	h, e := p.named(name)
	switch {
	case e != 0:
		return e
	case h.leaves:
		return errState
	case h.asked > 0:
		h.asked = 0
		return 0
	case h.state == act || h.state == qua:
		return errState
	}
	h.state, h.began = act, 0
	return 0
}

func (p *plain) force(name string, now int) api.Errno {
	h, e := p.named(name)
	switch {
	case e != 0:
		return e
	case h.state == ret:
		return errState
	}
	h.state = dra
	p.begin(h, now)
	return 0
}

func (p *plain) eject(name string) api.Errno {
	h, e := p.named(name)
	switch {
	case e != 0:
		return e
	case h.state != act:
		return errState
	case !p.mayLeave(h):
		return errGuard
	}
	h.state = qua
	return 0
}

func (p *plain) admit(deadline int) []string {
	var l []string
	for _, h := range p.waits() {
		if !p.mayLeave(h) {
			break
		}
		h.state = dra
		p.begin(h, deadline)
		l = append(l, h.name)
	}
	return l
}

func (p *plain) probe(name string) bool {
	h := p.get(name)
	if h == nil || h.state != qua {
		return false
	}
	h.state = act
	return true
}

func (p *plain) empty(name string) bool {
	h := p.get(name)
	if h == nil || h.state != dra {
		return false
	}
	h.state, h.began = ret, 0
	if h.leaves {
		p.remove(h)
	}
	return true
}

func (p *plain) due(now int) []string {
	var l []string
	for _, h := range p.under() {
		if h.deadline <= realTick(now) {
			l = append(l, h.name)
		}
	}
	return l
}

func (p *plain) ahead(name string) int {
	return slices.IndexFunc(p.waits(), func(h *one) bool { return h.name == name })
}

// both is a fleet and the plain one beside it: each call is held against the plain one, and all that is told behind it.
type both struct {
	t    *testing.T
	f    *Fleet
	p    *plain
	seen []string // all names that any call was told of
}

func start(t *testing.T, each, guard int) *both {
	t.Helper()
	b := &both{t: t, f: New(each, guard), p: &plain{each: each, guard: guard}, seen: []string{"", "A", "never"}}
	b.hold()
	return b
}

func (b *both) see(names ...string) {
	for _, name := range names {
		if !slices.Contains(b.seen, name) {
			b.seen = append(b.seen, name)
		}
	}
}

// hold asks both all that they tell without a change.
func (b *both) hold() {
	b.t.Helper()
	var names []string
	var states []int
	for _, h := range b.p.hosts {
		names, states = append(names, h.name), append(states, h.state)
	}
	if l := b.f.Names(); !slices.Equal(l, names) {
		b.t.Fatalf("Names: %q, want %q", l, names)
	}
	if l := b.f.States(); !slices.Equal(l, states) {
		b.t.Fatalf("States: %d, want %d", l, states)
	}
	if n := b.f.Capacity(); n != b.p.capacity() {
		b.t.Fatalf("Capacity: %d, want %d", n, b.p.capacity())
	}
	for _, name := range b.seen {
		b.holdName(name)
	}
	b.holdDue(lowest, -1, 0, 1, maxTick, most)
	for _, h := range b.p.under() {
		b.holdDue(h.deadline-1, h.deadline, h.deadline+1)
	}
}

func (b *both) holdName(name string) {
	b.t.Helper()
	h := b.p.get(name)
	if h == nil {
		h = &one{}
	}
	if s, is := b.f.State(name); s != h.state || is != (b.p.get(name) != nil) {
		b.t.Fatalf("State %q: %d, %v, want %d, %v", name, s, is, h.state, b.p.get(name) != nil)
	}
	if l := b.f.Leaves(name); l != h.leaves {
		b.t.Fatalf("Leaves %q: %v", name, l)
	}
	if n := b.f.Ahead(name); n != b.p.ahead(name) {
		b.t.Fatalf("Ahead %q: %d, want %d", name, n, b.p.ahead(name))
	}
}

func (b *both) holdDue(ticks ...int) {
	b.t.Helper()
	for _, now := range ticks {
		if l := b.f.Due(now); !slices.Equal(l, b.p.due(now)) {
			b.t.Fatalf("Due at %d: %q, want %q", now, l, b.p.due(now))
		}
	}
}

func (b *both) resolve(l []string, deadline int) ([]string, []string, api.Errno) {
	b.t.Helper()
	b.see(l...)
	came, left, e := b.f.Resolve(l, deadline)
	wantCame, wantLeft, wantE := b.p.resolve(l, deadline)
	if !slices.Equal(came, wantCame) || !slices.Equal(left, wantLeft) || e != wantE {
		b.t.Fatalf("Resolve %q at %d: %q, %q, %d, want %q, %q, %d", l, deadline, came, left, e, wantCame, wantLeft, wantE)
	}
	b.hold()
	return came, left, e
}

// named is one of the calls that answer an error, held against the plain one of it.
func (b *both) named(what, name string, e, want api.Errno) api.Errno {
	b.t.Helper()
	b.see(name)
	if e != want {
		b.t.Fatalf("%s %q: %d, want %d", what, name, e, want)
	}
	b.hold()
	return e
}

func (b *both) drain(name string) api.Errno {
	b.t.Helper()
	return b.named("Drain", name, b.f.Drain(name), b.p.drain(name))
}

func (b *both) undrain(name string) api.Errno {
	b.t.Helper()
	return b.named("Undrain", name, b.f.Undrain(name), b.p.undrain(name))
}

func (b *both) force(name string, now int) api.Errno {
	b.t.Helper()
	return b.named("Force", name, b.f.Force(name, now), b.p.force(name, now))
}

func (b *both) eject(name string) api.Errno {
	b.t.Helper()
	return b.named("Eject", name, b.f.Eject(name), b.p.eject(name))
}

func (b *both) admit(deadline int) []string {
	b.t.Helper()
	l, want := b.f.Admit(deadline), b.p.admit(deadline)
	if !slices.Equal(l, want) {
		b.t.Fatalf("Admit at %d: %q, want %q", deadline, l, want)
	}
	b.hold()
	return l
}

// did is one of the calls that answer whether they did anything, held against the plain one of it.
func (b *both) did(what, name string, is, want bool) bool {
	b.t.Helper()
	b.see(name)
	if is != want {
		b.t.Fatalf("%s %q: %v, want %v", what, name, is, want)
	}
	b.hold()
	return is
}

func (b *both) probe(name string) bool {
	b.t.Helper()
	return b.did("Probe", name, b.f.Probe(name), b.p.probe(name))
}

func (b *both) empty(name string) bool {
	b.t.Helper()
	return b.did("Empty", name, b.f.Empty(name), b.p.empty(name))
}

// The checks below hold what was told against what is written out by hand, not against the plain fleet alone.

func (b *both) wantResolve(list string, deadline int, came, left string) {
	b.t.Helper()
	c, l, e := b.resolve(strings.Fields(list), deadline)
	if strings.Join(c, " ") != came || strings.Join(l, " ") != left || e != 0 {
		b.t.Fatalf("Resolve %s: %q, %q, %d, want %s, %s", list, c, l, e, came, left)
	}
}

func (b *both) want(e, want api.Errno) {
	b.t.Helper()
	if e != want {
		b.t.Fatalf("%d, want %d", e, want)
	}
}

func (b *both) wantAdmit(deadline int, want string) {
	b.t.Helper()
	if l := b.admit(deadline); strings.Join(l, " ") != want {
		b.t.Fatalf("Admit: %q, want %s", l, want)
	}
}

// wantRow holds the names and the states, each as the first letter of it.
func (b *both) wantRow(want string) {
	b.t.Helper()
	states := b.f.States()
	var l []string
	for i, name := range b.f.Names() {
		l = append(l, name+":"+string("adqr"[states[i]]))
	}
	if strings.Join(l, " ") != want {
		b.t.Fatalf("the hosts are %q, want %s", l, want)
	}
}

func (b *both) wantDue(now int, want string) {
	b.t.Helper()
	if l := b.f.Due(now); strings.Join(l, " ") != want {
		b.t.Fatalf("Due at %d: %q, want %s", now, l, want)
	}
}

// wantUnder holds that a drain of the host is under way, with just that deadline, or none is (-1).
func (b *both) wantUnder(name string, deadline int) {
	b.t.Helper()
	is := slices.Contains(b.f.Due(maxTick), name)
	if deadline < 0 && is {
		b.t.Fatalf("a drain of %q is under way", name)
	}
	if deadline >= 0 && (!slices.Contains(b.f.Due(deadline), name) || deadline > 0 && slices.Contains(b.f.Due(deadline-1), name)) {
		b.t.Fatalf("the drain of %q is not under way till %d", name, deadline)
	}
}

func (b *both) wantAhead(name string, want int) {
	b.t.Helper()
	if n := b.f.Ahead(name); n != want {
		b.t.Fatalf("Ahead %q: %d, want %d", name, n, want)
	}
}

// plight is what a host may be like, and how it comes to be so: h between a and z, of a fleet without a guard.
type plight struct {
	name     string
	state    int
	leaves   bool
	waits    bool
	deadline int // of its drain that is under way; -1: none is
	come     func(b *both)
}

func plights() []plight {
	drain := func(b *both) { b.drain("h") }
	admit := func(b *both) { b.drain("h"); b.admit(40) }
	force := func(b *both) { b.force("h", 41) }
	eject := func(b *both) { b.eject("h") }
	leave := func(b *both) { b.resolve([]string{"a", "z"}, 42) }
	empty := func(b *both) { b.empty("h") }
	row := func(all ...func(b *both)) func(b *both) {
		return func(b *both) {
			for _, do := range all {
				do(b)
			}
		}
	}
	return []plight{
		{"active", act, false, false, -1, row()},
		{"active, its drain waits", act, false, true, -1, row(drain)},
		{"quarantined", qua, false, false, -1, row(eject)},
		{"quarantined, its drain waits", qua, false, true, -1, row(eject, drain)},
		{"quarantined behind being asked to drain", qua, false, true, -1, row(drain, eject)},
		{"draining, admitted", dra, false, false, 40, row(admit)},
		{"draining, admitted out of quarantine", dra, false, false, 40, row(eject, admit)},
		{"draining, forced", dra, false, false, 41, row(force)},
		{"draining, forced while its drain waited", dra, false, false, 41, row(drain, force)},
		{"draining, forced out of quarantine", dra, false, false, 41, row(eject, force)},
		{"leaving", dra, true, false, 42, row(leave)},
		{"leaving, its drain waited", dra, true, false, 42, row(drain, leave)},
		{"leaving out of quarantine", dra, true, false, 42, row(eject, leave)},
		{"leaving out of quarantine, its drain waited", dra, true, false, 42, row(eject, drain, leave)},
		{"leaving, admitted before", dra, true, false, 40, row(admit, leave)},
		{"leaving, forced before", dra, true, false, 41, row(force, leave)},
		{"leaving, forced behind it", dra, true, false, 41, row(leave, force)},
		{"retired, admitted before", ret, false, false, -1, row(admit, empty)},
		{"retired, forced before", ret, false, false, -1, row(force, empty)},
	}
}

// inEach does it in each plight, of a fresh fleet each time, and holds that the plight is what it is said to be.
func inEach(t *testing.T, do func(b *both, p plight)) {
	for _, p := range plights() {
		t.Run(p.name, func(t *testing.T) {
			b := start(t, 2, 0)
			b.resolve([]string{"a", "h", "z"}, 39)
			p.come(b)
			s, is := b.f.State("h")
			if s != p.state || !is || b.f.Leaves("h") != p.leaves || (b.f.Ahead("h") == 0) != p.waits {
				t.Fatalf("State %d, %v, Leaves %v, Ahead %d", s, is, b.f.Leaves("h"), b.f.Ahead("h"))
			}
			b.wantUnder("h", p.deadline)
			do(b, p)
		})
	}
}

// P18.1: the numbers that the tests write out are those of package api.
func TestNumbers(t *testing.T) {
	for i, x := range []struct{ got, want int }{
		{api.Active, act}, {api.Draining, dra}, {api.Quarantined, qua}, {api.Retired, ret},
		{int(api.ErrArg), errArg}, {int(api.ErrNone), errNone}, {int(api.ErrThere), errThere}, {int(api.ErrState), errState},
		{int(api.ErrGuard), errGuard}, {int(api.ErrName), errName}, {int(api.ErrLong), errLong}, {int(api.OK), 0},
		{api.MaxTick, maxTick}, {api.MaxList, 16}, {api.MaxName, 16},
	} {
		if x.got != x.want {
			t.Errorf("%d: %d, want %d", i, x.got, x.want)
		}
	}
}

// P18.1: the chapter's example.
func TestExample(t *testing.T) {
	b := start(t, 2, 2)
	b.wantResolve("a b", 0, "a b", "")
	b.want(b.drain("a"), 0)
	b.want(b.drain("b"), 0)
	b.wantAdmit(10, "a")
	b.wantAhead("a", -1)
	b.wantAhead("b", 0)
	b.wantRow("a:d b:a")
	b.wantAdmit(11, "")
	b.wantDue(10, "a")
}

// P18.1: a fresh fleet has no hosts, and tells so.
func TestFresh(t *testing.T) {
	for _, each := range []int{lowest, -1, 0, 1, most} {
		b := start(t, each, each)
		b.wantRow("")
		b.wantAdmit(5, "")
		for _, name := range []string{"a", "db-1.x", "abcdefghijklmnop"} {
			b.want(b.drain(name), errNone)
			b.want(b.undrain(name), errNone)
			b.want(b.force(name, 5), errNone)
			b.want(b.eject(name), errNone)
			if b.probe(name) || b.empty(name) {
				t.Error("there is", name)
			}
			if s, is := b.f.State(name); s != 0 || is || b.f.Leaves(name) || b.f.Ahead(name) != -1 {
				t.Error("there is", name)
			}
		}
		if b.f.Capacity() != 0 || len(b.f.Due(most)) != 0 {
			t.Error(b.f.Capacity(), b.f.Due(most))
		}
	}
}

// P18.1: the first list came in its row; the same names again, in whatever row, change nothing.
func TestResolveSame(t *testing.T) {
	b := start(t, 2, 1)
	b.wantResolve("c a b", 5, "c a b", "")
	b.wantRow("c:a a:a b:a")
	b.wantResolve("c a b", 6, "", "")
	b.wantResolve("a b c", 7, "", "")
	b.wantResolve("b c a", 8, "", "")
	b.wantRow("c:a a:a b:a")
	b.wantDue(maxTick, "")
}

// P18.1: of an empty list, and of nil, all hosts leave.
func TestResolveNone(t *testing.T) {
	for _, none := range [][]string{nil, {}, make([]string, 0, 4)} {
		b := start(t, 2, 6)
		came, left, e := b.resolve(none, 5)
		if len(came) != 0 || len(left) != 0 || e != 0 {
			t.Fatal(came, left, e)
		}
		b.wantResolve("b a c", 5, "b a c", "")
		came, left, e = b.resolve(none, 9)
		if len(came) != 0 || strings.Join(left, " ") != "b a c" || e != 0 {
			t.Fatal(came, left, e)
		}
		b.wantRow("b:d a:d c:d")
		b.wantDue(8, "")
		b.wantDue(9, "b a c")
		if came, left, e = b.resolve(none, 10); len(came) != 0 || len(left) != 0 || e != 0 {
			t.Fatal(came, left, e)
		}
		b.wantDue(9, "b a c")
	}
}

// seventeen are one name more than a list may have.
func seventeen() []string {
	var l []string
	for i := range 17 {
		l = append(l, fmt.Sprintf("h%d", i))
	}
	return l
}

// badLists are such as may not be, with the error of each: of several at once the one that is first.
func badLists() []struct {
	list []string
	e    api.Errno
} {
	type bad = struct {
		list []string
		e    api.Errno
	}
	long := seventeen()
	longBad := append(slices.Clone(long[:16]), "A")
	longTwice := append(slices.Clone(long[:16]), "h0")
	longBoth := append(slices.Clone(long[:15]), "A", "h0", "h0")
	lists := []bad{
		{long, errLong}, {longBad, errLong}, {longTwice, errLong}, {longBoth, errLong},
		{[]string{"a", "a"}, errThere}, {[]string{"n", "a", "b", "n"}, errThere},
		{[]string{"a", "a", "A"}, errName}, {[]string{"A", "A"}, errName}, {[]string{"", ""}, errName},
	}
	for _, name := range badNames() {
		lists = append(lists, bad{[]string{name}, errName}, bad{[]string{"n", "a", name}, errName}, bad{[]string{name, "a", "a"}, errName})
	}
	return lists
}

// P18.1: of a list that may not be nothing changes, and both lists are none (R1, R2, R3), whatever the hosts are.
func TestResolveRefused(t *testing.T) {
	for _, x := range badLists() {
		b := start(t, 2, 2)
		b.resolve([]string{"a", "b", "c", "d", "e"}, 5)
		b.drain("a")
		b.admit(6)
		b.drain("b")
		b.eject("c")
		b.force("d", 7)
		b.resolve([]string{"a", "b", "c", "e"}, 8)
		for range 2 {
			came, left, e := b.f.Resolve(x.list, 3)
			if len(came) != 0 || len(left) != 0 || e != x.e {
				t.Fatalf("Resolve %q: %q, %q, %d, want %d", x.list, came, left, e, x.e)
			}
			b.see(x.list...)
			b.hold()
			b.resolve(x.list, 3)
		}
		b.wantRow("a:d b:a c:q d:d e:a")
		b.wantResolve("a b c d e", 9, "d", "")
	}
	// A list of just so many names as may be is none of them.
	b := start(t, 1, 0)
	came, left, e := b.resolve(seventeen()[:16], 5)
	if !slices.Equal(came, seventeen()[:16]) || len(left) != 0 || e != 0 {
		t.Fatal(came, left, e)
	}
}

// P18.1: a host that isn't of the list leaves, whatever it is: what it is then, and the deadline of its drain.
func TestResolveLeaves(t *testing.T) {
	inEach(t, func(b *both, p plight) {
		left := "h"
		if p.leaves {
			left = ""
		}
		b.wantResolve("z a", 90, "", left)
		b.wantAhead("h", -1)
		if p.state == ret {
			b.wantRow("a:a z:a")
			b.wantUnder("h", -1)
			if s, is := b.f.State("h"); s != 0 || is || b.f.Leaves("h") {
				b.t.Error(s, is)
			}
			return
		}
		b.wantRow("a:a h:d z:a")
		deadline := p.deadline
		if deadline < 0 {
			deadline = 90
		}
		b.wantUnder("h", deadline)
		if !b.f.Leaves("h") {
			b.t.Error("it doesn't leave")
		}
		// It is told once only, and its deadline stays.
		b.wantResolve("a z", 95, "", "")
		b.wantUnder("h", deadline)
	})
}

// P18.1: one of the list stays as it is, if it doesn't leave; if it does, it comes back: Active, without a drain, in
// its old place.
func TestResolveStaysOrComesBack(t *testing.T) {
	inEach(t, func(b *both, p plight) {
		if !p.leaves {
			b.wantResolve("z h a", 90, "", "")
			if s, _ := b.f.State("h"); s != p.state || b.f.Leaves("h") || (b.f.Ahead("h") == 0) != p.waits {
				b.t.Error(s, b.f.Leaves("h"), b.f.Ahead("h"))
			}
			b.wantUnder("h", p.deadline)
			return
		}
		b.wantResolve("z h a", 90, "h", "")
		b.wantRow("a:a h:a z:a")
		b.wantUnder("h", -1)
		b.wantAhead("h", -1)
		if b.f.Leaves("h") {
			b.t.Error("it leaves")
		}
		// It is as any other one again.
		b.want(b.undrain("h"), errState)
		b.want(b.drain("h"), 0)
		b.wantAdmit(91, "h")
		b.wantUnder("h", 91)
	})
}

// P18.1: one that left, and was empty, comes as a new one: behind all others.
func TestResolveComesAnew(t *testing.T) {
	inEach(t, func(b *both, p plight) {
		b.resolve([]string{"a", "z"}, 90)
		if b.empty("h") != (p.state != ret) {
			b.t.Error("Empty")
		}
		b.wantRow("a:a z:a")
		b.wantResolve("h a z", 91, "h", "")
		b.wantRow("a:a z:a h:a")
		b.wantUnder("h", -1)
		b.wantAhead("h", -1)
	})
}

// P18.1: those that leave are told in the row of the hosts, and so they begin; those that come, or come back, in the row
// of the list.
func TestResolveRows(t *testing.T) {
	b := start(t, 1, 0)
	b.wantResolve("d b a c e", 5, "d b a c e", "")
	b.wantResolve("c", 9, "", "d b a e")
	b.wantDue(9, "d b a e")
	// e and d come back, x and y come, c leaves: all at once.
	b.wantResolve("y e x d", 12, "y e x d", "c")
	b.wantRow("d:a b:d a:d c:d e:a y:a x:a")
	b.wantDue(11, "b a")
	b.wantDue(12, "b a c")
	// One that retired leaves among the others, in its place.
	b.want(b.force("e", 20), 0)
	if !b.empty("e") {
		t.Error("e isn't empty")
	}
	b.wantResolve("b", 30, "b", "d e y x")
	b.wantRow("d:d b:a a:d c:d y:d x:d")
	b.wantDue(30, "a c d y x")
}

// P18.1: a list's names that are new come behind all others, and so do those that leave: there may be more than 16 hosts.
func TestResolveMany(t *testing.T) {
	b := start(t, 3, 0)
	var all []string
	for round := range 6 {
		var list []string
		for i := range 16 {
			list = append(list, fmt.Sprintf("h%d-%d", round, i))
		}
		came, left, e := b.resolve(list, 100+round)
		if !slices.Equal(came, list) || len(left) != min(16, 16*round) || e != 0 {
			t.Fatal(came, left, e)
		}
		all = append(all, list...)
		if !slices.Equal(b.f.Names(), all) || b.f.Capacity() != 48 {
			t.Fatal(b.f.Names(), b.f.Capacity())
		}
	}
	if l := b.f.Due(100 + 5); !slices.Equal(l, all[:80]) {
		t.Fatal(l)
	}
	// Those of the first rounds come back, each in its old place.
	back := []string{all[70], all[0], all[33]}
	came, left, _ := b.resolve(back, 200)
	if !slices.Equal(came, back) || !slices.Equal(left, all[80:]) || !slices.Equal(b.f.Names(), all) {
		t.Fatal(came, left)
	}
	for _, name := range all {
		if b.empty(name) == slices.Contains(back, name) {
			t.Error(name)
		}
	}
	b.wantRow("h0-0:a h2-1:a h4-6:a")
}

// P18.1: all deadlines that a drain may be told, by each call that tells one.
func TestDeadlines(t *testing.T) {
	for _, x := range []struct{ told, is int }{
		{lowest, 0}, {lowest + 1, 0}, {-1, 0}, {0, 0}, {1, 1}, {maxTick - 1, maxTick - 1}, {maxTick, maxTick},
		{maxTick + 1, maxTick}, {most - 1, maxTick}, {most, maxTick},
	} {
		b := start(t, 2, 0)
		b.resolve([]string{"a", "b", "c"}, x.told)
		b.wantDue(most, "")
		b.drain("a")
		b.admit(x.told)
		b.force("b", x.told)
		b.resolve([]string{"a", "b"}, x.told)
		for _, name := range []string{"a", "b", "c"} {
			b.wantUnder(name, x.is)
		}
		b.wantDue(x.is, "a b c")
		b.wantDue(most, "a b c")
		if x.is == 0 {
			b.wantDue(lowest, "a b c")
		} else {
			b.wantDue(x.is-1, "")
			b.wantDue(lowest, "")
		}
	}
}

// P18.1: a name that may not be is told ahead of all others, then a host that there isn't (R1); nothing changes (R3).
func TestNamesRefused(t *testing.T) {
	b := start(t, 2, 4)
	b.resolve([]string{"a", "b"}, 5)
	b.drain("a")
	b.force("b", 7)
	refused := func(name string, want api.Errno) {
		t.Helper()
		b.want(b.drain(name), want)
		b.want(b.undrain(name), want)
		for _, now := range []int{lowest, 0, 5, most} {
			b.want(b.force(name, now), want)
		}
		b.want(b.eject(name), want)
		if b.probe(name) || b.empty(name) || b.f.Leaves(name) || b.f.Ahead(name) != -1 {
			t.Errorf("there is %q", name)
		}
		if s, is := b.f.State(name); s != 0 || is {
			t.Errorf("State %q: %d, %v", name, s, is)
		}
		b.wantRow("a:a b:d")
		b.wantAhead("a", 0)
		b.wantUnder("b", 7)
	}
	for _, name := range badNames() {
		refused(name, errName)
	}
	for _, name := range []string{"c", "aa", "a.", "-", "abcdefghijklmnop"} {
		refused(name, errNone)
	}
	// One that left, and was empty, is there no more.
	b.resolve([]string{"a"}, 5)
	b.empty("b")
	if b.undrain("b") != errNone || b.drain("b") != errNone || b.force("b", 1) != errNone || b.eject("b") != errNone {
		t.Error("b is there")
	}
}

// P18.1: Drain, in each plight.
func TestDrain(t *testing.T) {
	inEach(t, func(b *both, p plight) {
		want := api.Errno(0)
		switch {
		case p.state == dra || p.state == ret:
			want = errState
		case p.waits:
			want = errThere
		}
		// Two wait already: it is behind them, or stays ahead of them.
		b.want(b.drain("z"), 0)
		b.want(b.drain("a"), 0)
		b.want(b.drain("h"), want)
		if want == 0 {
			b.wantAhead("h", 2)
			b.want(b.drain("h"), errThere)
			b.wantAhead("h", 2)
		}
		if s, _ := b.f.State("h"); s != p.state || b.f.Leaves("h") != p.leaves {
			b.t.Error(s, b.f.Leaves("h"))
		}
		b.wantUnder("h", p.deadline)
	})
}

// P18.1: all sixteen of a list may wait. (A seventeenth host leaves: it is Draining, and can't wait.)
func TestDrainSixteen(t *testing.T) {
	b := start(t, 1, 16)
	l := seventeen()
	b.resolve(l[16:], 5)
	b.resolve(l[:16], 5)
	for i, name := range l[:16] {
		b.want(b.drain(name), 0)
		b.wantAhead(name, i)
	}
	b.want(b.drain(l[16]), errState)
	b.want(b.drain(l[15]), errThere)
	b.wantAdmit(5, "")
	b.wantAhead(l[15], 15)
}

// P18.1: Undrain, in each plight.
func TestUndrain(t *testing.T) {
	inEach(t, func(b *both, p plight) {
		switch {
		case p.leaves:
			b.want(b.undrain("h"), errState)
			b.wantRow("a:a h:d z:a")
			b.wantUnder("h", p.deadline)
		case p.waits:
			b.want(b.undrain("h"), 0)
			b.wantAhead("h", -1)
			if s, _ := b.f.State("h"); s != p.state {
				b.t.Error(s)
			}
			b.wantAdmit(50, "")
			b.want(b.undrain("h"), errState)
		case p.state == act || p.state == qua:
			b.want(b.undrain("h"), errState)
			if s, _ := b.f.State("h"); s != p.state {
				b.t.Error(s)
			}
		default:
			b.want(b.undrain("h"), 0)
			b.wantRow("a:a h:a z:a")
			b.wantUnder("h", -1)
			b.want(b.undrain("h"), errState)
			b.want(b.drain("h"), 0)
		}
	})
}

// P18.1: an undrained one that waited lets those behind it move up.
func TestUndrainMovesUp(t *testing.T) {
	b := start(t, 2, 4)
	b.resolve([]string{"a", "b", "c"}, 5)
	for _, name := range []string{"c", "a", "b"} {
		b.drain(name)
	}
	b.want(b.undrain("a"), 0)
	b.wantAhead("c", 0)
	b.wantAhead("b", 1)
	b.want(b.drain("a"), 0)
	b.wantAhead("a", 2)
	b.wantAdmit(9, "c")
	b.want(b.undrain("b"), 0)
	b.wantAhead("a", 0)
}

// P18.1: Force, in each plight, at each deadline.
func TestForce(t *testing.T) {
	for _, x := range []struct{ now, deadline int }{
		{lowest, 0}, {-1, 0}, {0, 0}, {1, 1}, {30, 30}, {40, 40}, {41, 41}, {99, 99}, {maxTick, maxTick}, {maxTick + 1, maxTick}, {most, maxTick},
	} {
		inEach(t, func(b *both, p plight) {
			if p.state == ret {
				b.want(b.force("h", x.now), errState)
				b.wantRow("a:a h:r z:a")
				b.wantUnder("h", -1)
				return
			}
			b.force("a", 50)
			b.drain("z")
			b.want(b.force("h", x.now), 0)
			b.wantRow("a:d h:d z:a")
			b.wantUnder("h", x.deadline)
			b.wantAhead("h", -1)
			b.wantAhead("z", 0)
			if b.f.Leaves("h") != p.leaves {
				b.t.Error("Leaves")
			}
			// In place of another one it began behind the others.
			b.wantDue(most, "a h")
		})
	}
}

// P18.1: a force is not held up by the guard, which lets nothing else leave then.
func TestForcePastGuard(t *testing.T) {
	b := start(t, 2, most)
	b.resolve([]string{"a", "b"}, 5)
	b.want(b.eject("a"), errGuard)
	b.drain("a")
	b.wantAdmit(5, "")
	b.want(b.force("a", 6), 0)
	b.want(b.force("b", 6), 0)
	b.wantRow("a:d b:d")
	if b.f.Capacity() != 0 {
		t.Error(b.f.Capacity())
	}
}

// P18.1: Eject, in each plight.
func TestEject(t *testing.T) {
	inEach(t, func(b *both, p plight) {
		if p.state != act {
			b.want(b.eject("h"), errState)
			if s, _ := b.f.State("h"); s != p.state {
				b.t.Error(s)
			}
			return
		}
		b.want(b.eject("h"), 0)
		b.wantRow("a:a h:q z:a")
		if (b.f.Ahead("h") == 0) != p.waits {
			b.t.Error("Ahead", b.f.Ahead("h"))
		}
		b.wantUnder("h", -1)
		b.want(b.eject("h"), errState)
	})
}

// P18.1: of the guard: one that just may leave, and one that just may not; that it isn't Active is told ahead of it.
func TestEjectGuard(t *testing.T) {
	for _, x := range []struct {
		each, guard int
		want        api.Errno
	}{
		{2, 4, 0}, {2, 5, errGuard}, {2, 3, 0}, {3, 6, 0}, {3, 7, errGuard}, {1, 2, 0}, {1, 3, errGuard}, {2, 0, 0}, {2, -1, 0}, {2, lowest, 0}, {2, most, errGuard},
		{0, 0, 0}, {0, 1, errGuard}, {-1, 0, 0}, {-1, -1, 0}, {-1, 1, errGuard}, {-7, -14, 0}, {lowest, 0, 0}, {lowest, 1, errGuard}, {lowest, lowest, 0},
		{most, most, 0}, {most / 2, most - 1, 0}, {most / 2, most, errGuard}, {1 << 62, most, 0}, {1 << 61, 1 << 62, 0}, {1 << 61, 1<<62 + 1, errGuard},
	} {
		b := start(t, x.each, x.guard)
		b.resolve([]string{"a", "b", "c"}, 5)
		b.want(b.eject("b"), x.want)
		b.force("c", 5)
		b.want(b.eject("c"), errState)
		if x.want == 0 {
			b.wantRow("a:a b:q c:d")
			b.want(b.eject("b"), errState)
		} else {
			b.wantRow("a:a b:a c:d")
			b.drain("b")
			b.want(b.eject("b"), errGuard)
			b.wantAhead("b", 0)
		}
	}
}

// P18.1: each host that is ejected leaves less to the others.
func TestEjectTillGuard(t *testing.T) {
	b := start(t, 2, 4)
	b.resolve([]string{"a", "b", "c", "d"}, 5)
	b.want(b.eject("c"), 0)
	b.want(b.eject("a"), 0)
	b.want(b.eject("b"), errGuard)
	b.want(b.eject("d"), errGuard)
	b.probe("a")
	b.want(b.eject("d"), 0)
	b.want(b.eject("a"), errGuard)
	b.wantRow("a:a b:a c:q d:q")
}

// P18.1: none waits: none is admitted.
func TestAdmitNone(t *testing.T) {
	b := start(t, 2, 0)
	b.wantAdmit(5, "")
	b.resolve([]string{"a", "b"}, 5)
	b.wantAdmit(5, "")
	b.drain("a")
	b.undrain("a")
	b.wantAdmit(5, "")
	b.wantRow("a:a b:a")
}

// P18.1, P18.3: one that may not leave holds up those behind it, although they may.
func TestAdmitHeldUp(t *testing.T) {
	b := start(t, 2, 4)
	b.resolve([]string{"a", "b", "c"}, 5)
	b.want(b.eject("b"), 0)
	b.drain("a")
	b.drain("b") // in quarantine: it may
	b.drain("c")
	b.wantAdmit(9, "")
	b.wantRow("a:a b:q c:a")
	for i, name := range []string{"a", "b", "c"} {
		b.wantAhead(name, i)
	}
	b.wantDue(most, "")
	// Without the one that held it up it is admitted; then c may not.
	b.undrain("a")
	b.wantAdmit(10, "b")
	b.wantRow("a:a b:d c:a")
	b.wantAhead("c", 0)
	b.wantUnder("b", 10)
	// One that is back lets it leave.
	b.undrain("b")
	b.wantAdmit(11, "c")
	b.wantUnder("c", 11)
	b.wantUnder("b", -1)
}

// P18.1, P18.3: several are admitted until the guard is met, in the row in which they were asked.
func TestAdmitTillGuard(t *testing.T) {
	for _, x := range []struct {
		each, guard int
		want        string
	}{
		{2, 10, ""}, {2, 9, ""}, {2, 8, "d"}, {2, 7, "d"}, {2, 6, "d b"}, {2, 5, "d b"}, {2, 4, "d b e"}, {2, 2, "d b e a"}, {2, 1, "d b e a"}, {2, 0, "d b e a c"}, {2, -1, "d b e a c"}, {2, lowest, "d b e a c"},
		{2, most, ""}, {0, 0, "d b e a c"}, {0, 1, ""}, {-3, 0, "d b e a c"}, {-3, -3, "d b e a c"}, {-3, 1, ""}, {lowest, 0, "d b e a c"}, {lowest, 1, ""}, {1, 3, "d b"},
		{most, most, "d b e a"}, {1 << 62, most, "d b e"}, {1 << 62, 1 << 62, "d b e a"}, {most, 0, "d b e a c"}, {1 << 60, 1 << 61, "d b e"},
	} {
		b := start(t, x.each, x.guard)
		b.wantResolve("a b c d e", 5, "a b c d e", "")
		for _, name := range []string{"d", "b", "e", "a", "c"} {
			b.want(b.drain(name), 0)
		}
		b.wantAdmit(70, x.want)
		b.wantDue(69, "")
		b.wantDue(70, x.want)
		b.wantAdmit(71, "")
		b.wantDue(70, x.want)
	}
}

// P18.1: that one more is back lets one more be admitted, whichever way it came back.
func TestAdmitAgain(t *testing.T) {
	for name, back := range map[string]func(b *both){
		"undrained":              func(b *both) { b.undrain("a") },
		"undrained from retired": func(b *both) { b.empty("a"); b.undrain("a") },
		"probed":                 func(b *both) { b.probe("q") },
		"come":                   func(b *both) { b.resolve([]string{"a", "b", "c", "d", "q", "n"}, 5) },
		"come back":              func(b *both) { b.resolve([]string{"a", "b", "c", "d", "q", "l"}, 5) },
	} {
		t.Run(name, func(t *testing.T) {
			b := start(t, 1, 3)
			b.resolve([]string{"a", "b", "c", "d", "q", "l"}, 5)
			b.want(b.eject("q"), 0)
			b.resolve([]string{"a", "b", "c", "d", "q"}, 6)
			for _, name := range []string{"a", "c", "b"} {
				b.drain(name)
			}
			b.wantAdmit(20, "a")
			b.wantAdmit(21, "")
			back(b)
			b.wantAdmit(22, "c")
			b.wantAhead("b", 0)
			b.wantUnder("c", 22)
			b.wantAdmit(23, "")
		})
	}
}

// P18.1: Probe, in each plight.
func TestProbe(t *testing.T) {
	inEach(t, func(b *both, p plight) {
		if b.probe("h") != (p.state == qua) {
			b.t.Error("Probe")
		}
		want := p.state
		if want == qua {
			want = act
		}
		if s, _ := b.f.State("h"); s != want || b.f.Leaves("h") != p.leaves || (b.f.Ahead("h") == 0) != p.waits {
			b.t.Error(s)
		}
		b.wantUnder("h", p.deadline)
		if b.probe("h") {
			b.t.Error("Probe again")
		}
	})
}

// P18.1: Empty, in each plight: one that leaves is there no more, and those behind it move up.
func TestEmpty(t *testing.T) {
	inEach(t, func(b *both, p plight) {
		if b.empty("h") != (p.state == dra) {
			b.t.Error("Empty")
		}
		s, is := b.f.State("h")
		switch {
		case p.leaves:
			b.wantRow("a:a z:a")
			if is || b.f.Leaves("h") {
				b.t.Error("it is there")
			}
			b.want(b.drain("h"), errNone)
		case p.state == dra:
			b.wantRow("a:a h:r z:a")
			b.want(b.drain("h"), errState)
		default:
			if s != p.state || (b.f.Ahead("h") == 0) != p.waits {
				b.t.Error(s, b.f.Ahead("h"))
			}
		}
		b.wantUnder("h", -1)
		if b.empty("h") {
			b.t.Error("Empty again")
		}
	})
}

// P18.1: of several that leave each is there no more by its own Empty, wherever it stands.
func TestEmptyMovesUp(t *testing.T) {
	names := []string{"a", "b", "c", "d"}
	for _, first := range names {
		for _, second := range names {
			if first == second {
				continue
			}
			b := start(t, 1, 0)
			b.resolve(names, 5)
			b.resolve(nil, 9)
			if !b.empty(first) || !b.empty(second) {
				t.Fatal(first, second)
			}
			left := slices.DeleteFunc(slices.Clone(names), func(s string) bool { return s == first || s == second })
			if !slices.Equal(b.f.Names(), left) || !slices.Equal(b.f.Due(9), left) {
				t.Fatal(b.f.Names(), b.f.Due(9))
			}
		}
	}
}

// P18.1: the capacity is of those that are Active alone, of each of them so much.
func TestCapacity(t *testing.T) {
	for _, x := range []struct{ each, want int }{
		{lowest, 0}, {-1, 0}, {0, 0}, {1, 2}, {2, 4}, {1000, 2000}, {most / 2, most - 1}, {most/2 + 1, most}, {most, most},
	} {
		b := start(t, x.each, lowest)
		b.resolve([]string{"a", "d", "q", "r", "b", "l"}, 5)
		b.force("d", 5)
		b.eject("q")
		b.force("r", 5)
		b.empty("r")
		b.drain("b")
		b.resolve([]string{"a", "d", "q", "r", "b"}, 5)
		b.wantRow("a:a d:d q:q r:r b:a l:d")
		if n := b.f.Capacity(); n != x.want {
			t.Errorf("of %d: %d, want %d", x.each, n, x.want)
		}
	}
}

// P18.1: one that there isn't is told from one that is Active.
func TestState(t *testing.T) {
	b := start(t, 1, 0)
	b.resolve([]string{"a"}, 5)
	if s, is := b.f.State("a"); s != 0 || !is {
		t.Error(s, is)
	}
	if s, is := b.f.State("b"); s != 0 || is {
		t.Error(s, is)
	}
}

// P18.1: what is due stands in the row in which the drains began, not in that of the hosts, or of the deadlines.
func TestDueRow(t *testing.T) {
	b := start(t, 1, 0)
	b.resolve([]string{"a", "b", "c", "d"}, 5)
	b.force("c", 30)
	b.drain("d")
	b.drain("a")
	b.admit(20)
	b.resolve([]string{"a", "c", "d"}, 10)
	for _, x := range []struct {
		now  int
		want string
	}{{9, ""}, {10, "b"}, {11, "b"}, {19, "b"}, {20, "d a b"}, {29, "d a b"}, {30, "c d a b"}, {31, "c d a b"}, {most, "c d a b"}} {
		b.wantDue(x.now, x.want)
		b.wantDue(x.now, x.want)
	}
	b.undrain("a")
	b.empty("c")
	b.wantDue(30, "d b")
	b.resolve([]string{"a", "b", "c", "d"}, 10)
	b.wantDue(30, "d")
}

// P18.1 (R7): nil answers, and changes nothing.
func TestNil(t *testing.T) {
	var f *Fleet
	names := append([]string{"a", "db-1"}, badNames()...)
	numbers := []int{lowest, -1, 0, 1, maxTick, most}
	for _, name := range names {
		if f.Drain(name) != errArg || f.Undrain(name) != errArg || f.Eject(name) != errArg {
			t.Errorf("%q", name)
		}
		if s, is := f.State(name); s != 0 || is {
			t.Errorf("State %q: %d, %v", name, s, is)
		}
		if f.Probe(name) || f.Empty(name) || f.Leaves(name) || f.Ahead(name) != -1 {
			t.Errorf("%q", name)
		}
		for _, n := range numbers {
			if f.Force(name, n) != errArg {
				t.Errorf("Force %q, %d", name, n)
			}
		}
	}
	lists := [][]string{nil, {}, {"a"}, {"a", "b"}, {"a", "a"}, {"A"}, seventeen()}
	for _, n := range numbers {
		for _, l := range lists {
			if came, left, e := f.Resolve(l, n); len(came) != 0 || len(left) != 0 || e != errArg {
				t.Errorf("Resolve %q: %q, %q, %d", l, came, left, e)
			}
		}
		if len(f.Admit(n)) != 0 || len(f.Due(n)) != 0 {
			t.Error(n)
		}
	}
	if len(f.Names()) != 0 || len(f.States()) != 0 || f.Capacity() != 0 || f != nil {
		t.Error("nil has hosts")
	}
}

// P18.1 (R4): a list that was handed in is not changed, behind its length either, and is not kept.
func TestListHandedIn(t *testing.T) {
	b := start(t, 2, 0)
	under := []string{"c", "a", "b", "x", "y"}
	for _, deadline := range []int{5, 6} {
		list := under[:3]
		b.resolve(list, deadline)
		if !slices.Equal(under, []string{"c", "a", "b", "x", "y"}) {
			t.Fatal(under)
		}
		b.resolve(under[1:2], deadline)
		if !slices.Equal(under, []string{"c", "a", "b", "x", "y"}) {
			t.Fatal(under)
		}
		b.resolve(list, deadline)
		list[0], list[1], list[2] = "z", "z", "z"
		b.hold()
		b.wantRow("c:a a:a b:a")
		copy(under, []string{"c", "a", "b"})
	}
}

// P18.1 (R4): lists that are answered are new memory: what is written to them is told nowhere.
func TestListsAnswered(t *testing.T) {
	b := start(t, 2, 0)
	spoil := func(lists ...[]string) {
		t.Helper()
		for _, l := range lists {
			l = l[:cap(l)]
			for i := range l {
				l[i] = "spoilt"
			}
		}
		b.hold()
	}
	list := []string{"a", "b", "c", "d"}
	came, left, _ := b.resolve(list, 5)
	spoil(came, left)
	if !slices.Equal(list, []string{"a", "b", "c", "d"}) {
		t.Fatal(list)
	}
	b.drain("b")
	b.drain("a")
	spoil(b.admit(7))
	spoil(b.f.Due(7), b.f.Names())
	states := b.f.States()
	states = states[:cap(states)]
	for i := range states {
		states[i] = 77
	}
	b.hold()
	came, left, _ = b.resolve([]string{"d", "x"}, 8)
	spoil(came, left)
	// No two lists of one answer share any memory.
	came, left, _ = b.f.Resolve([]string{"a", "b", "c", "y"}, 9)
	wantLeft := slices.Clone(left)
	for i := range came[:cap(came)] {
		came[:cap(came)][i] = "spoilt"
	}
	if !slices.Equal(left, wantLeft) || strings.Join(left, " ") != "d x" {
		t.Fatal(left)
	}
}

// dice are what the rows of calls are made of.
type dice struct {
	r     *rand.Rand
	names []string
}

func (d *dice) name() string {
	if d.r.Intn(40) == 0 {
		return badNames()[d.r.Intn(len(badNames()))]
	}
	return d.names[d.r.Intn(len(d.names))]
}

func (d *dice) tick() int {
	edges := []int{lowest, -1, 0, 1, maxTick - 1, maxTick, maxTick + 1, most}
	if d.r.Intn(6) == 0 {
		return edges[d.r.Intn(len(edges))]
	}
	return d.r.Intn(20)
}

// list is mostly one that may be; now and then it is too long, or has a name that may not be, or one twice.
func (d *dice) list() []string {
	var l []string
	for _, i := range d.r.Perm(len(d.names))[:d.r.Intn(min(16, len(d.names))+1)] {
		l = append(l, d.names[i])
	}
	switch d.r.Intn(20) {
	case 0:
		l = append(l, d.name())
	case 1:
		l = append(l, seventeen()...)
	}
	return l
}

func (d *dice) amount() int {
	edges := []int{lowest, -1, 0, 1, 1 << 61, 1 << 62, most}
	if d.r.Intn(5) == 0 {
		return edges[d.r.Intn(len(edges))]
	}
	return d.r.Intn(9)
}

func roll(seed int64, names int) *dice {
	d := &dice{r: rand.New(rand.NewSource(seed))}
	for i := range names {
		d.names = append(d.names, fmt.Sprintf("n%d", i))
	}
	return d
}

// step is a call of the fleet, and of the plain one.
func (d *dice) step(b *both) {
	b.t.Helper()
	switch d.r.Intn(20) {
	case 0, 1:
		b.resolve(d.list(), d.tick())
	case 2, 3, 4, 5, 6:
		b.drain(d.name())
	case 7, 8:
		b.undrain(d.name())
	case 9:
		b.force(d.name(), d.tick())
	case 10, 11:
		b.eject(d.name())
	case 12, 13, 14:
		b.admit(d.tick())
	case 15, 16:
		b.probe(d.name())
	default:
		b.empty(d.name())
	}
}

// P18.1: thousands of mixed rows of calls answer as the chapter's sentences, written down plainly.
func TestRows(t *testing.T) {
	for seed := range int64(2000) {
		d := roll(seed, 2+int(seed%19))
		each := d.amount()
		guard := d.amount()
		if d.r.Intn(2) == 0 {
			each, guard = 1+d.r.Intn(3), d.r.Intn(20)
		}
		b := start(t, each, guard)
		b.resolve(d.names[:min(16, len(d.names))], d.tick())
		for range 60 {
			d.step(b)
		}
	}
}

// P18.1: a long row.
func TestLongRow(t *testing.T) {
	d := roll(7, 40)
	b := start(t, 2, 9)
	for range 5000 {
		d.step(b)
	}
}

// P18.1 (R6): what is answered hangs on the calls alone: two fleets that are told the same answer the same, and one
// beside them that is told others doesn't touch them.
func TestTwins(t *testing.T) {
	for seed := range int64(300) {
		first, second := start(t, 2, 6), start(t, 2, 6)
		other := start(t, 3, 4)
		d, twin, third := roll(seed, 8), roll(seed, 8), roll(seed+1000, 8)
		for range 80 {
			d.step(first)
			third.step(other)
			twin.step(second)
			first.hold()
			if !slices.Equal(first.f.Names(), second.f.Names()) || !slices.Equal(first.f.States(), second.f.States()) || !slices.Equal(first.f.Due(10), second.f.Due(10)) {
				t.Fatal(first.f.Names(), second.f.Names())
			}
		}
	}
}

// P18.2: by none of these calls the capacity falls past the guard, in whatever row, even of a fleet that is below it.
func TestNeverPastGuard(t *testing.T) {
	fell, refused := 0, 0
	for seed := range int64(4000) {
		d := roll(seed, 2+int(seed%12))
		each, least := d.amount(), d.amount()
		if d.r.Intn(3) > 0 {
			each, least = 1+d.r.Intn(3), d.r.Intn(16)
		}
		f := New(each, least)
		f.Resolve(d.names, d.tick())
		for range 60 {
			was := f.Capacity()
			name, what := d.name(), ""
			switch d.r.Intn(8) {
			case 0:
				what = "Drain"
				f.Drain(name)
			case 1:
				what = "Admit"
				f.Admit(d.tick())
			case 2, 3:
				what = "Eject"
				if f.Eject(name) == errGuard {
					refused++
				}
			case 4:
				what = "Undrain"
				f.Undrain(name)
			case 5:
				what = "Probe"
				f.Probe(name)
			case 6:
				what = "Empty"
				f.Empty(name)
			default: // these two may lower it past the guard
				if d.r.Intn(3) == 0 {
					f.Resolve(d.list(), d.tick())
				} else {
					f.Force(name, d.tick())
				}
				continue
			}
			if f.Capacity() < was {
				fell++
			}
			if guard.Fell(was, f.Capacity(), least) || f.Capacity() < was && f.Capacity() < least {
				t.Fatalf("%s %q: from %d to %d, the guard is %d", what, name, was, f.Capacity(), least)
			}
		}
	}
	if fell < 1000 || refused < 1000 {
		t.Errorf("it fell %d times, and was kept up %d times: too few to tell", fell, refused)
	}
}

// P18.2: all that were asked leave as far as the guard lets them, and no further: one more may not.
func TestAdmitAsFarAsMay(t *testing.T) {
	for hosts := 1; hosts <= 16; hosts++ {
		for each := 1; each <= 3; each++ {
			for least := -1; least <= hosts*each+1; least++ {
				f := New(each, least)
				f.Resolve(seventeen()[:hosts], 0)
				for _, name := range f.Names() {
					f.Drain(name)
				}
				l := f.Admit(5)
				left := hosts - len(l)
				if len(l) > 0 && left*each < least || left > 0 && (left-1)*each >= least || f.Capacity() != left*each {
					t.Fatalf("%d hosts of %d, guard %d: %q", hosts, each, least, l)
				}
			}
		}
	}
}

// P18.3: of hosts that are all there the admitted ones come in the row in which they were asked, and the first one that
// still waits is one that may not leave.
func TestAdmittedAsAsked(t *testing.T) {
	admitted := 0
	for seed := range int64(3000) {
		d := roll(seed, 1+int(seed%16))
		each, least := 1+d.r.Intn(3), d.r.Intn(40)
		f := New(each, least)
		f.Resolve(d.names, 0)
		var asked, began []string
		for i := range 60 {
			if d.r.Intn(4) > 0 {
				if name := d.name(); f.Drain(name) == 0 {
					asked = append(asked, name)
				}
			} else {
				began = append(began, f.Admit(i)...)
				wantFirstKept(t, f, asked[len(began):], each, least)
			}
			if !slices.Equal(began, asked[:len(began)]) || !slices.Equal(f.Due(100), began) {
				t.Fatalf("asked %q, admitted %q, under way %q", asked, began, f.Due(100))
			}
		}
		admitted += len(began)
	}
	if admitted < 1000 {
		t.Error("too few were admitted to tell:", admitted)
	}
}

// wantFirstKept holds that the first one that waits, if one does, may not leave.
func wantFirstKept(t *testing.T, f *Fleet, waits []string, each, least int) {
	t.Helper()
	for i, name := range waits {
		if f.Ahead(name) != i {
			t.Fatalf("Ahead %q: %d of %q", name, f.Ahead(name), waits)
		}
	}
	if len(waits) > 0 && guard.May(f.States(), slices.Index(f.Names(), waits[0]), each, least) {
		t.Fatalf("%q may leave, and waits", waits[0])
	}
}
