package state

import (
	"math"
	"math/rand"
	"slices"
	"strings"
	"testing"

	"hostler/api"
)

// How many states and events there are, by hand: what is tested is not asked for them.
const (
	states = 4
	events = 7
)

// table is the chapter's: a row a state, a letter an event, of the state that it leads to; - where it does nothing.
var table = [states]string{
	"D-Q--D-",
	"-A--R-A",
	"D--A-D-",
	"-A----A",
}

// plainNext is where the chapter's table leads.
func plainNext(state, event int) (int, bool) {
	if state < 0 || state >= states || event < 0 || event >= events || table[state][event] == '-' {
		return state, false
	}
	return strings.IndexByte("ADQR", table[state][event]), true
}

// plainWalk goes the table from its end: what is behind the last event hangs on what is behind those ahead of it.
func plainWalk(state int, row []int) (int, int) {
	if len(row) == 0 {
		return state, 0
	}
	last := len(row) - 1
	at, count := plainWalk(state, row[:last])
	next, did := plainNext(at, row[last])
	if did {
		count++
	}
	return next, count
}

// noStates are numbers of no state: one below, one above, far from them, and such as are one if bits are cut off.
func noStates() []int {
	return []int{-1, 4, -2, 5, 6, 7, 8, -3, -4, -100, 100, 255, 256, 257, 1 << 16, -1 << 16, 1<<31 - 1, 1 << 31, -1 << 31, 1 << 32, 1<<32 + 1, -1 << 32, 1<<62 + 1, math.MinInt, math.MinInt + 1, math.MaxInt - 1, math.MaxInt}
}

// noEvents are the same of events.
func noEvents() []int {
	return []int{-1, 7, -2, 8, 9, -6, -7, -100, 100, 255, 256, 257, 1 << 16, -1 << 16, 1<<31 - 1, 1 << 31, -1 << 31, 1 << 32, 1<<32 + 1, -1 << 32, 1<<62 + 4, math.MinInt, math.MinInt + 1, math.MaxInt - 1, math.MaxInt}
}

func wantNext(t *testing.T, state, event, want int, wantDid bool) {
	t.Helper()
	if got, did := Next(state, event); got != want || did != wantDid {
		t.Errorf("Next of %d and %d: %d, %v, want %d, %v", state, event, got, did, want, wantDid)
	}
}

func wantWalk(t *testing.T, state int, row []int, want, wantCount int) {
	t.Helper()
	was := slices.Clone(row)
	if got, count := Walk(state, row...); got != want || count != wantCount {
		t.Errorf("Walk of %d and %v: %d, %d, want %d, %d", state, row, got, count, want, wantCount)
	}
	if !slices.Equal(row, was) {
		t.Errorf("Walk of %d changed %v to %v", state, was, row)
	}
}

// holdWalk holds Walk against Next, one event behind the other, and against the plain walk.
func holdWalk(t *testing.T, state int, row []int) {
	t.Helper()
	at, count := state, 0
	for _, event := range row {
		next, did := Next(at, event)
		if did {
			count++
		}
		at = next
	}
	wantWalk(t, state, row, at, count)
	plain, plainCount := plainWalk(state, row)
	wantWalk(t, state, row, plain, plainCount)
}

// eachRow calls do with all rows of at most so many of the choices.
func eachRow(most int, choices []int, do func(row []int)) {
	var grow func(row []int)
	grow = func(row []int) {
		do(row)
		if len(row) == most {
			return
		}
		for _, c := range choices {
			grow(append(slices.Clone(row), c))
		}
	}
	grow(nil)
}

// allEvents are the events there are.
func allEvents() []int {
	return []int{0, 1, 2, 3, 4, 5, 6}
}

// someRow is n events out of the choices.
func someRow(r *rand.Rand, choices []int, n int) []int {
	row := make([]int, n)
	for i := range row {
		row[i] = choices[r.Intn(len(choices))]
	}
	return row
}

// P10.1: the numbers of the states and of the events.
func TestNumbers(t *testing.T) {
	if got := []int{api.Active, api.Draining, api.Quarantined, api.Retired}; !slices.Equal(got, []int{0, 1, 2, 3}) {
		t.Errorf("the states are %v", got)
	}
	if got := []int{Drain, Undrain, Eject, Probe, Empty, Leave, Enter}; !slices.Equal(got, allEvents()) {
		t.Errorf("the events are %v", got)
	}
}

// P10.1: Next of each state and each event, as the chapter's table stands.
func TestNext(t *testing.T) {
	const (
		active      = 0
		draining    = 1
		quarantined = 2
		retired     = 3
		none        = -1
	)
	for state, row := range [states][events]int{
		// Drain, Undrain, Eject, Probe, Empty, Leave, Enter
		{draining, none, quarantined, none, none, draining, none},
		{none, active, none, none, retired, none, active},
		{draining, none, none, active, none, draining, none},
		{none, active, none, none, none, none, active},
	} {
		for event, want := range row {
			if want == none {
				wantNext(t, state, event, state, false)
			} else {
				wantNext(t, state, event, want, true)
			}
			// What the other tests hold it against says the same.
			if next, did := plainNext(state, event); did != (want != none) || did && next != want || !did && next != state {
				t.Errorf("the table of %d and %d: %d, %v", state, event, next, did)
			}
		}
	}
}

// P10.1: Next of states and events that there aren't, either alone and both at once: the state that was handed in.
func TestNextOfNone(t *testing.T) {
	for _, state := range noStates() {
		for event := range events {
			wantNext(t, state, event, state, false)
		}
		for _, event := range noEvents() {
			wantNext(t, state, event, state, false)
		}
	}
	for state := range states {
		for _, event := range noEvents() {
			wantNext(t, state, event, state, false)
		}
	}
}

// P10.1: Next of any numbers.
func TestNextOfAny(t *testing.T) {
	for state := -20; state <= 20; state++ {
		for event := -20; event <= 20; event++ {
			want, did := plainNext(state, event)
			wantNext(t, state, event, want, did)
		}
	}
	r := rand.New(rand.NewSource(100))
	for range 20000 {
		state, event := int(r.Uint64()), int(r.Uint64())
		wantNext(t, state, event, state, false)
		wantNext(t, state, r.Intn(events), state, false)
		state = r.Intn(states)
		wantNext(t, state, event, state, false)
	}
}

// P10.1: the chapter's example.
func TestExample(t *testing.T) {
	wantWalk(t, api.Active, []int{Drain, Empty}, api.Retired, 2)
	if state, count := Walk(api.Active, Drain, Empty); state != 3 || count != 2 {
		t.Errorf("Active, Drain, Empty: %d, %d", state, count)
	}
}

// P10.1: Walk of no events: the state as it is.
func TestWalkOfNoEvents(t *testing.T) {
	for _, state := range append(noStates(), 0, 1, 2, 3) {
		if got, count := Walk(state); got != state || count != 0 {
			t.Errorf("Walk of %d: %d, %d", state, got, count)
		}
		wantWalk(t, state, nil, state, 0)
		wantWalk(t, state, []int{}, state, 0)
	}
}

// P10.1: Walk of one event is Next.
func TestWalkOfOne(t *testing.T) {
	for _, state := range append(noStates(), 0, 1, 2, 3) {
		for _, event := range append(noEvents(), allEvents()...) {
			next, did := plainNext(state, event)
			count := 0
			if did {
				count = 1
			}
			wantWalk(t, state, []int{event}, next, count)
		}
	}
}

// P10.1: Walk of rows that are written out, those with events that do nothing, or that there aren't, among them.
func TestWalk(t *testing.T) {
	for _, x := range []struct {
		state       int
		row         []int
		want, count int
	}{
		{api.Active, []int{Drain, Drain, Drain}, api.Draining, 1},
		{api.Active, []int{Drain, Leave, Eject, Empty, Empty}, api.Retired, 2},
		{api.Active, []int{Eject, Eject, Probe, Leave, Empty, Enter}, api.Active, 5},
		{api.Active, []int{Undrain, Probe, Empty, Enter}, api.Active, 0},
		{api.Active, []int{Empty, Drain}, api.Draining, 1},
		{api.Active, []int{Eject, Empty, Undrain, Enter}, api.Quarantined, 1},
		{api.Active, []int{Eject, Probe, Eject, Probe}, api.Active, 4},
		{api.Draining, []int{Undrain, Enter, Undrain}, api.Active, 1},
		{api.Draining, []int{Probe, Eject, Enter, Eject}, api.Quarantined, 2},
		{api.Draining, []int{Drain, Leave, Eject, Probe}, api.Draining, 0},
		{api.Quarantined, []int{Leave, Undrain, Eject, Drain, Empty}, api.Retired, 5},
		{api.Quarantined, []int{Enter, Undrain, Empty, Eject}, api.Quarantined, 0},
		{api.Retired, []int{Drain, Eject, Probe, Empty, Leave}, api.Retired, 0},
		{api.Retired, []int{Enter, Leave, Empty, Undrain, Drain, Empty}, api.Retired, 6},
		{api.Active, []int{-1, Drain, 7, Empty, math.MinInt}, api.Retired, 2},
		{api.Active, []int{math.MaxInt, 7, -1}, api.Active, 0},
		{api.Retired, []int{7, Enter, 8, Eject, -7, Probe, math.MaxInt}, api.Active, 3},
		{-1, []int{Drain, Undrain, Eject, Probe, Empty, Leave, Enter}, -1, 0},
		{4, []int{Enter, Undrain, Drain, Empty}, 4, 0},
		{math.MinInt, []int{Enter, Drain, -1, 7}, math.MinInt, 0},
		{math.MaxInt, []int{Enter, Drain, -1, 7}, math.MaxInt, 0},
	} {
		wantWalk(t, x.state, x.row, x.want, x.count)
		holdWalk(t, x.state, x.row)
	}
}

// P10.1: Walk is Next, one event behind the other, for all short rows.
func TestWalkOfShortRows(t *testing.T) {
	eachRow(5, allEvents(), func(row []int) {
		for state := range states {
			holdWalk(t, state, row)
		}
	})
	eachRow(3, append(allEvents(), -1, 7, math.MinInt, math.MaxInt), func(row []int) {
		for _, state := range []int{0, 1, 2, 3, -1, 4, math.MinInt, math.MaxInt} {
			holdWalk(t, state, row)
		}
	})
}

// P10.1: the same for many long rows; every other one has events that there aren't among them.
func TestWalkOfLongRows(t *testing.T) {
	r := rand.New(rand.NewSource(101))
	all := slices.Concat(allEvents(), allEvents(), allEvents(), noEvents())
	for range 1000 {
		n := r.Intn(300)
		holdWalk(t, r.Intn(states), someRow(r, allEvents(), n))
		holdWalk(t, r.Intn(states), someRow(r, all, n))
		holdWalk(t, noStates()[r.Intn(len(noStates()))], someRow(r, all, n))
	}
}

// P10.1: each event of a very long row is counted.
func TestWalkOfMany(t *testing.T) {
	const rounds = 1 << 18
	row := slices.Repeat([]int{Eject, Eject, Probe, Leave, Empty, Enter}, rounds)
	wantWalk(t, api.Active, row, api.Active, 5*rounds)
	wantWalk(t, api.Retired, row, api.Active, 5*rounds-4)
	wantWalk(t, 4, row, 4, 0)
	wantWalk(t, api.Active, slices.Repeat([]int{7}, rounds), api.Active, 0)
}

// R4: the events that are handed in stay as they were, and what lies behind them too.
func TestEventsStay(t *testing.T) {
	whole := []int{Drain, 99, Empty, Enter, -5, Eject}
	was := slices.Clone(whole)
	Walk(api.Active, whole[:3]...)
	Walk(api.Retired, whole[3:4]...)
	Walk(-1, whole...)
	if !slices.Equal(whole, was) {
		t.Errorf("the events are %v, and were %v", whole, was)
	}
}

// P10.1: Serves and Opens of each state, and of those that there aren't: of Active alone.
func TestServesAndOpens(t *testing.T) {
	for _, state := range append(noStates(), 0, 1, 2, 3) {
		if got := Serves(state); got != (state == 0) {
			t.Errorf("Serves of %d: %v", state, got)
		}
		if got := Opens(state); got != (state == 0) {
			t.Errorf("Opens of %d: %v", state, got)
		}
	}
}

func stateNames() []string {
	return []string{"active", "draining", "quarantined", "retired"}
}

func eventsByName() []string {
	return []string{"drain", "undrain", "eject", "probe", "empty", "leave", "enter"}
}

// P10.1: Name and Event of each there is.
func TestNames(t *testing.T) {
	for state, want := range stateNames() {
		if got := Name(state); got != want {
			t.Errorf("Name of %d: %q, want %q", state, got, want)
		}
	}
	for event, want := range eventsByName() {
		if got := Event(event); got != want {
			t.Errorf("Event of %d: %q, want %q", event, got, want)
		}
	}
}

// P10.1: Name and Event of those that there aren't: the empty text.
func TestNamesOfNone(t *testing.T) {
	for _, state := range noStates() {
		if got := Name(state); got != "" {
			t.Errorf("Name of %d: %q", state, got)
		}
	}
	for _, event := range noEvents() {
		if got := Event(event); got != "" {
			t.Errorf("Event of %d: %q", event, got)
		}
	}
}

// P10.1: Of of each name; Of and Name go there and back.
func TestOf(t *testing.T) {
	for want, name := range stateNames() {
		if got, ok := Of(name); got != want || !ok || Name(got) != name {
			t.Errorf("Of %q: %d, %v, whose name is %q", name, got, ok, Name(got))
		}
		if got, ok := Of(Name(want)); got != want || !ok {
			t.Errorf("Of the name of %d: %d, %v", want, got, ok)
		}
	}
}

// P10.1: Of of texts that are no state's name: 0, and false.
func TestOfNone(t *testing.T) {
	l := []string{"", " ", "-", "?", "0", "1", "3", "\x00", "\xff", "none", "Active", "ACTIVE", "activate", "drained", "quarantine", "retire", "active,draining", "active draining", "áctive", "аctive", strings.Repeat("active", 1<<16), strings.Repeat(" ", 1<<20)}
	l = append(l, eventsByName()...)
	for _, name := range stateNames() {
		l = append(l, strings.ToUpper(name), strings.ToUpper(name[:1])+name[1:], name[:len(name)-1]+strings.ToUpper(name[len(name)-1:]), name+name)
		for _, b := range []string{" ", "\t", "\n", "\x00", "a", "d", "s", ".", "\xff", "\u00a0", "\ufeff"} {
			l = append(l, b+name, name+b, b+name+b)
		}
		for at := range len(name) {
			l = append(l, name[:at], name[at+1:], name[:at]+name[at+1:], name[:at]+name[at:at+1]+name[at:])
		}
	}
	for _, name := range l {
		if got, ok := Of(name); got != 0 || ok {
			t.Errorf("Of %q: %d, %v", name, got, ok)
		}
	}
}

// P10.1: Of of a name in which one byte is another.
func TestOfBytes(t *testing.T) {
	for state, name := range stateNames() {
		for at := range len(name) {
			for b := range 256 {
				s := name[:at] + string([]byte{byte(b)}) + name[at+1:]
				got, ok := Of(s)
				if s == name && (got != state || !ok) || s != name && (got != 0 || ok) {
					t.Errorf("Of %q: %d, %v", s, got, ok)
				}
			}
		}
	}
}

// P10.2: from each state each other one can be come to, within as many events as there are other states.
func TestEachCanBeComeTo(t *testing.T) {
	for from := range states {
		var come [states]bool
		eachRow(3, allEvents(), func(row []int) {
			at, _ := Walk(from, row...)
			if at < 0 || at >= states {
				t.Fatalf("Walk of %d and %v: %d is no state", from, row, at)
			}
			come[at] = true
		})
		if come != [states]bool{true, true, true, true} {
			t.Errorf("from %d: %v", from, come)
		}
	}
}

// P10.2: a retired host serves only behind Undrain or Enter: of all short rows, and of many long ones.
func TestRetiredServesNot(t *testing.T) {
	hold := func(row []int) {
		t.Helper()
		back := slices.Contains(row, 1) || slices.Contains(row, 6)
		at, count := Walk(api.Retired, row...)
		if !back && (Serves(at) || Opens(at) || at != api.Retired || count != 0) {
			t.Errorf("Retired and %v: %d, %d, it serves: %v", row, at, count, Serves(at))
		}
		// At the first one of them it comes back.
		for i, event := range row {
			at, _ := Walk(api.Retired, row[:i+1]...)
			if event == 1 || event == 6 {
				if !Serves(at) {
					t.Errorf("Retired and %v: %d, which doesn't serve", row[:i+1], at)
				}
				break
			}
			if Serves(at) {
				t.Errorf("Retired and %v: %d, which serves", row[:i+1], at)
			}
		}
	}
	eachRow(5, allEvents(), hold)
	eachRow(3, append(allEvents(), -1, 7, math.MinInt, math.MaxInt), hold)
	r := rand.New(rand.NewSource(102))
	for range 2000 {
		hold(someRow(r, append(noEvents(), 0, 2, 3, 4, 5, 0, 2, 3, 4, 5), r.Intn(200)))
		hold(someRow(r, allEvents(), r.Intn(20)))
	}
}

// P10.2: wherever a host comes from, once it is retired it serves again behind Undrain or Enter alone.
func TestOnceRetired(t *testing.T) {
	eachRow(5, allEvents(), func(row []int) {
		for from := range states {
			at, retired := from, from == api.Retired
			for i, event := range row {
				at, _ = Next(at, event)
				retired = at == api.Retired || retired && event != 1 && event != 6
				if retired && Serves(at) {
					t.Errorf("from %d by %v: %d serves", from, row[:i+1], at)
				}
			}
		}
	})
}

// R6: what a call answers does not hang on those ahead of it.
func TestNothingIsKept(t *testing.T) {
	for range 100 {
		Walk(api.Active, Drain, Empty)
		Next(api.Retired, Enter)
		Of("retired")
		Of("nothing")
		wantNext(t, api.Active, Eject, api.Quarantined, true)
		wantNext(t, api.Retired, Eject, api.Retired, false)
		wantWalk(t, api.Quarantined, []int{Probe, Drain}, api.Draining, 2)
	}
}
