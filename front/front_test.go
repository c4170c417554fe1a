package front

import (
	"fmt"
	"math"
	"math/rand"
	"slices"
	"strings"
	"testing"

	"hostler/api"
)

// chapter is the chapter's table, word by word.
const chapter = `
| | Hello | Begin | Query | Commit, Rollback | Close | others |
| Fresh | Welcome, Idle | Bad, Closed | Bad, Closed | Bad, Closed | Bye, Closed | Bad, Closed |
| Idle | Bad, Closed | Wait, Waiting | Bad, Closed | Bad, Closed | Bye, Closed | Bad, Closed |
| Waiting | Hold | Hold | Hold | Hold | Bye, Closed | Bad, Closed |
| Bound | Ruin, Closed | Ruin, Closed | Pass | Pass, Ending | Break, Closed | Ruin, Closed |
| Ending | Hold | Hold | Hold | Hold | Break, Closed | Ruin, Closed |
| Skipping | Bad, Closed | Bad, Closed | Nothing | Nothing, Idle | Bye, Closed | Bad, Closed |
| Closed | Nothing | Nothing | Nothing | Nothing | Nothing | Nothing |
`

// stateWords and whatWords are in the row in which the chapter numbers them.
var (
	stateWords = []string{"Fresh", "Idle", "Waiting", "Bound", "Ending", "Skipping", "Closed"}
	whatWords  = []string{"Nothing", "Welcome", "Wait", "Hold", "Pass", "Bye", "Break", "Bad", "Ruin"}
)

// cells are the chapter's table, read: by the state, then by the column.
var cells = func() [][][2]int {
	var all [][][2]int
	for i, line := range strings.Split(strings.TrimSpace(chapter), "\n") {
		if i == 0 {
			continue
		}
		parts := strings.Split(strings.Trim(line, "| "), "|")
		state := slices.Index(stateWords, strings.TrimSpace(parts[0]))
		if state != len(all) || len(parts) != 7 {
			panic("the table has no such row: " + line)
		}
		var row [][2]int
		for _, part := range parts[1:] {
			what, next, moves := strings.Cut(strings.TrimSpace(part), ", ")
			cell := [2]int{state, slices.Index(whatWords, what)}
			if moves {
				cell[0] = slices.Index(stateWords, next)
			}
			if cell[0] < 0 || cell[1] < 0 {
				panic("the table has no such cell: " + part)
			}
			row = append(row, cell)
		}
		all = append(all, row)
	}
	return all
}()

// cellOf is the state behind a kind of frame and what is to be done, as the chapter's table has it.
func cellOf(state, kind int) (int, int) {
	cell := cells[state][5]
	for column, kinds := range [][]int{{1}, {2}, {3}, {4, 5}, {8}} {
		if slices.Contains(kinds, kind) {
			cell = cells[state][column]
		}
	}
	return cell[0], cell[1]
}

// someKinds are all kinds, and numbers that are none.
func someKinds() []int {
	return []int{1, 2, 3, 4, 5, 6, 7, 8, 0, 9, 10, 16, 255, 256, 257, 259, 1 << 32, 1<<32 + 3, 1 << 62, math.MaxInt - 1, math.MaxInt, -1, -2, -3, -8, -1 << 62, math.MinInt + 1, math.MinInt + 3, math.MinInt}
}

// noStates are numbers of no state.
func noStates() []int {
	return []int{-1, -2, -7, math.MinInt, math.MinInt + 1, math.MinInt + 3, -1 << 62, 7, 8, 9, 13, 256, 258, 1 << 32, 1<<32 + 2, 1 << 62, math.MaxInt - 1, math.MaxInt}
}

// call is one of the six calls that may do anything, and the frame that it is handed.
type call struct {
	name  string
	frame api.Frame
}

func take(kind int) call              { return call{"take", api.Frame{Kind: kind}} }
func with(kind int, data string) call { return call{"take", api.Frame{Kind: kind, Data: data}} }
func next() call                      { return call{name: "next"} }
func bound() call                     { return call{name: "bound"} }
func done() call                      { return call{name: "done"} }
func abort() call                     { return call{name: "abort"} }
func quit() call                      { return call{name: "quit"} }

// many is a row of as many frames of the kind, each of other data.
func many(count, kind int) []call {
	var row []call
	for i := range count {
		row = append(row, with(kind, fmt.Sprint("data ", i)))
	}
	return row
}

func join(rows ...[]call) []call { return slices.Concat(rows...) }

// answer is what a call answered, of all of them.
type answer struct {
	frame api.Frame
	what  int
	did   bool
}

// do does the call.
func (c call) do(f *Front) answer {
	switch c.name {
	case "take":
		return answer{what: f.Take(c.frame)}
	case "next":
		x, what, is := f.Next()
		return answer{x, what, is}
	case "bound":
		return answer{did: f.Bound()}
	case "done":
		return answer{did: f.Done()}
	case "abort":
		return answer{did: f.Abort()}
	case "quit":
		return answer{did: f.Quit()}
	}
	panic("no call " + c.name)
}

// plain is a client in other words than the program's: where each call leads is asked of the chapter's table and its
// list, and all frames that were ever held stay in one row, of which those from first on are held still.
type plain struct {
	state int
	row   []api.Frame
	first int
}

// goes are where the calls without a frame lead from each state that they do anything in.
var goes = map[string]map[int]int{
	"bound": {2: 3},
	"done":  {4: 1},
	"abort": {2: 5, 3: 5, 4: 1},
	"quit":  {0: 6, 1: 6, 2: 6, 3: 6, 4: 6, 5: 6},
}

func (p *plain) held() int {
	if p.state == 6 {
		return 0
	}
	return len(p.row) - p.first
}

func (p *plain) take(x api.Frame) int {
	state, what := cellOf(p.state, x.Kind)
	if what == 3 && p.held() == 4 {
		state, what = 6, map[int]int{2: 7, 4: 8}[p.state]
	}
	if what == 3 {
		p.row = append(p.row, x)
	}
	p.state = state
	return what
}

func (p *plain) do(c call) answer {
	switch c.name {
	case "take":
		return answer{what: p.take(c.frame)}
	case "next":
		if p.state == 2 || p.state == 4 || p.held() == 0 {
			return answer{}
		}
		x := p.row[p.first]
		p.first++
		return answer{x, p.take(x), true}
	}
	to, does := goes[c.name][p.state]
	if does {
		p.state = to
	}
	return answer{did: does}
}

// both is a client and the plain one beside it: each call is held against the plain one, and all that is told behind it.
type both struct {
	t *testing.T
	f *Front
	p *plain
}

func start(t *testing.T, calls ...call) *both {
	t.Helper()
	b := &both{t, New(), &plain{}}
	b.hold()
	for _, c := range calls {
		b.do(c)
	}
	return b
}

// hold asks both all that they tell without a change, twice.
func (b *both) hold() {
	b.t.Helper()
	for range 2 {
		b.want(b.p.state, b.p.held())
	}
}

func (b *both) do(c call) answer {
	b.t.Helper()
	is := c.do(b.f)
	if want := b.p.do(c); is != want {
		b.t.Fatalf("%s of %+v: %+v, want %+v", c.name, c.frame, is, want)
	}
	b.hold()
	return is
}

// The checks below hold what was told against what is written out by hand, not against the plain one alone.

func (b *both) want(state, held int) {
	b.t.Helper()
	if b.f.State() != state || b.f.Held() != held {
		b.t.Fatalf("it is %s and holds %d, want %s and %d", Name(b.f.State()), b.f.Held(), stateWords[state], held)
	}
}

func (b *both) wantTake(c call, what, state, held int) {
	b.t.Helper()
	if is := b.do(c); is.what != what {
		b.t.Fatalf("Take of %+v: %s, want %s", c.frame, whatWords[is.what], whatWords[what])
	}
	b.want(state, held)
}

func (b *both) wantNext(c call, what, state, held int) {
	b.t.Helper()
	if is := b.do(next()); is != (answer{c.frame, what, true}) {
		b.t.Fatalf("Next: %+v, want %+v, to be %s", is, c.frame, whatWords[what])
	}
	b.want(state, held)
}

func (b *both) wantNoNext() {
	b.t.Helper()
	state, held := b.f.State(), b.f.Held()
	for range 2 {
		if is := b.do(next()); is != (answer{}) {
			b.t.Fatalf("Next: %+v, want none", is)
		}
		b.want(state, held)
	}
}

func (b *both) wantDid(c call, state, held int) {
	b.t.Helper()
	if !b.do(c).did {
		b.t.Fatalf("%s: false in %s", c.name, Name(b.f.State()))
	}
	b.want(state, held)
}

func (b *both) wantNot(calls ...call) {
	b.t.Helper()
	for _, c := range calls {
		state, held := b.f.State(), b.f.Held()
		if b.do(c) != (answer{}) {
			b.t.Fatalf("%s did", c.name)
		}
		b.want(state, held)
	}
}

// come is a state that was come to: by which calls, and what is held then.
type come struct {
	by    []call
	state int
	held  []call
}

// allComings are each of the seven states, however it was come to, written out by hand.
func allComings() []come {
	idle := []call{take(1)}
	waiting := []call{take(1), take(2)}
	inTrade := join(waiting, []call{bound()})
	ending := join(inTrade, []call{take(4)})
	two := []call{with(3, "a"), with(4, "b")}
	again := []call{with(2, "c"), with(3, "d"), with(5, "e")}
	odd := []call{with(1, "f"), with(2, "g")}
	four := many(4, 3)
	skipping := join(waiting, []call{abort()})
	return []come{
		{nil, 0, nil},
		{idle, 1, nil},
		{join(ending, []call{done()}), 1, nil},
		{join(inTrade, []call{take(3), take(5), done()}), 1, nil},
		{join(ending, []call{abort()}), 1, nil},
		{join(skipping, []call{take(4)}), 1, nil},
		{join(skipping, []call{take(3), take(5)}), 1, nil},
		{join(inTrade, []call{abort(), take(5)}), 1, nil},
		{join(waiting, two, []call{abort(), next(), next()}), 1, nil},
		{join(ending, again, []call{done()}), 1, again},
		{join(ending, again, []call{abort()}), 1, again},
		{join(ending, odd, []call{done()}), 1, odd},
		{join(ending, four, []call{abort()}), 1, four},
		{join(waiting, two, many(2, 3), []call{abort(), next(), next()}), 1, many(2, 3)},
		{join(waiting, two, odd, []call{abort(), take(5)}), 1, join(two, odd)},
		{waiting, 2, nil},
		{join(ending, []call{done(), take(2)}), 2, nil},
		{join(skipping, []call{take(4), take(2)}), 2, nil},
		{join(waiting, two), 2, two},
		{join(waiting, odd), 2, odd},
		{join(waiting, four), 2, four},
		{join(ending, again, []call{done(), next()}), 2, again[1:]},
		{join(ending, again, []call{done(), take(2)}), 2, again},
		{inTrade, 3, nil},
		{join(inTrade, []call{take(3), take(3)}), 3, nil},
		{join(ending, []call{done(), take(2), bound()}), 3, nil},
		{join(waiting, two, []call{bound()}), 3, two},
		{join(waiting, two, []call{bound(), next()}), 3, two[1:]},
		{join(waiting, odd, []call{bound()}), 3, odd},
		{join(waiting, four, []call{bound(), take(3)}), 3, four},
		{join(ending, again, []call{done(), next(), bound()}), 3, again[1:]},
		{ending, 4, nil},
		{join(inTrade, []call{take(5)}), 4, nil},
		{join(waiting, two, []call{bound(), next(), next()}), 4, nil},
		{join(waiting, two, []call{bound(), take(5)}), 4, two},
		{join(ending, again), 4, again},
		{join(ending, odd), 4, odd},
		{join(ending, four), 4, four},
		{skipping, 5, nil},
		{join(inTrade, []call{take(3), abort()}), 5, nil},
		{join(skipping, []call{take(3), take(3)}), 5, nil},
		{join(waiting, two, []call{abort()}), 5, two},
		{join(waiting, odd, []call{abort()}), 5, odd},
		{join(waiting, four, []call{bound(), next(), abort()}), 5, four[1:]},
		{join(waiting, four, []call{abort()}), 5, four},
		{[]call{quit()}, 6, nil},
		{[]call{take(8)}, 6, nil},
		{[]call{take(3)}, 6, nil},
		{join(idle, []call{quit()}), 6, nil},
		{join(idle, []call{take(1)}), 6, nil},
		{join(waiting, two, []call{quit()}), 6, nil},
		{join(waiting, two, []call{take(8)}), 6, nil},
		{join(waiting, four, []call{take(3)}), 6, nil},
		{join(inTrade, []call{take(2)}), 6, nil},
		{join(waiting, odd, []call{bound(), next()}), 6, nil},
		{join(ending, four, []call{take(4)}), 6, nil},
		{join(ending, two, []call{take(8)}), 6, nil},
		{join(ending, odd, []call{done(), next()}), 6, nil},
		{join(waiting, odd, []call{abort(), next()}), 6, nil},
		{join(skipping, []call{quit()}), 6, nil},
	}
}

// at begins with what was come to, and holds it against what is written out.
func at(t *testing.T, x come) *both {
	t.Helper()
	b := start(t, x.by...)
	b.want(x.state, len(x.held))
	return b
}

// The numbers that these tests write out are those of the packages.
func TestTheNumbers(t *testing.T) {
	states := []int{Fresh, Idle, Waiting, Bound, Ending, Skipping, Closed}
	whats := []int{Nothing, Welcome, Wait, Hold, Pass, Bye, Break, Bad, Ruin}
	kinds := []int{0, api.Hello, api.Begin, api.Query, api.Commit, api.Rollback, api.Reply, api.Error, api.Close}
	for _, numbers := range [][]int{states, whats, kinds} {
		for i, n := range numbers {
			if i != n {
				t.Errorf("%d stands at %d of %v", n, i, numbers)
			}
		}
	}
	if api.MaxHeld != 4 || len(cells) != 7 {
		t.Error("the numbers are others")
	}
}

// P15.1: Hello, Begin: Waiting; Query is held; Bound: Next is that Query, to be passed.
func TestExample(t *testing.T) {
	b := start(t)
	b.wantTake(with(1, "me"), Welcome, Idle, 0)
	b.wantTake(take(2), Wait, Waiting, 0)
	b.wantTake(with(3, "ab"), Hold, Waiting, 1)
	b.wantNoNext()
	b.wantDid(bound(), Bound, 1)
	b.wantNext(with(3, "ab"), Pass, Bound, 0)
	b.wantNoNext()
}

// P15.1: On of each state, with each kind and with kinds that there aren't, cell by cell.
func TestOn(t *testing.T) {
	for state := range 7 {
		for _, kind := range someKinds() {
			wantNext, wantWhat := cellOf(state, kind)
			for range 2 {
				if next, what := On(state, kind); next != wantNext || what != wantWhat {
					t.Errorf("On %s, %d: %d, %d, want %d, %d", stateWords[state], kind, next, what, wantNext, wantWhat)
				}
			}
		}
	}
}

// P15.1: the cells by hand, by number: those that aren't the others.
func TestOnByHand(t *testing.T) {
	for _, x := range []struct{ state, kind, next, what int }{
		{Fresh, api.Hello, Idle, Welcome}, {Fresh, api.Close, Closed, Bye},
		{Idle, api.Begin, Waiting, Wait}, {Idle, api.Close, Closed, Bye},
		{Waiting, api.Hello, Waiting, Hold}, {Waiting, api.Begin, Waiting, Hold}, {Waiting, api.Query, Waiting, Hold}, {Waiting, api.Commit, Waiting, Hold}, {Waiting, api.Rollback, Waiting, Hold}, {Waiting, api.Close, Closed, Bye},
		{Bound, api.Query, Bound, Pass}, {Bound, api.Commit, Ending, Pass}, {Bound, api.Rollback, Ending, Pass}, {Bound, api.Close, Closed, Break}, {Bound, api.Hello, Closed, Ruin}, {Bound, api.Begin, Closed, Ruin}, {Bound, api.Reply, Closed, Ruin}, {Bound, api.Error, Closed, Ruin}, {Bound, 0, Closed, Ruin}, {Bound, 9, Closed, Ruin}, {Bound, -1, Closed, Ruin},
		{Ending, api.Hello, Ending, Hold}, {Ending, api.Begin, Ending, Hold}, {Ending, api.Query, Ending, Hold}, {Ending, api.Commit, Ending, Hold}, {Ending, api.Rollback, Ending, Hold}, {Ending, api.Close, Closed, Break}, {Ending, api.Reply, Closed, Ruin}, {Ending, api.Error, Closed, Ruin}, {Ending, 0, Closed, Ruin}, {Ending, 9, Closed, Ruin}, {Ending, -1, Closed, Ruin},
		{Skipping, api.Query, Skipping, Nothing}, {Skipping, api.Commit, Idle, Nothing}, {Skipping, api.Rollback, Idle, Nothing}, {Skipping, api.Close, Closed, Bye}, {Skipping, api.Hello, Closed, Bad}, {Skipping, api.Begin, Closed, Bad},
	} {
		if next, what := On(x.state, x.kind); next != x.next || what != x.what {
			t.Errorf("On %d, %d: %d, %d, want %d, %d", x.state, x.kind, next, what, x.next, x.what)
		}
	}
	for _, state := range []int{Fresh, Idle, Waiting, Skipping} {
		for _, kind := range []int{api.Reply, api.Error, 0, 9, -1, math.MinInt, math.MaxInt} {
			if next, what := On(state, kind); next != Closed || what != Bad {
				t.Errorf("On %d, %d: %d, %d", state, kind, next, what)
			}
		}
	}
	for _, kind := range someKinds() {
		if next, what := On(Closed, kind); next != Closed || what != Nothing {
			t.Errorf("On Closed, %d: %d, %d", kind, next, what)
		}
	}
}

// P15.1: On of a state that there isn't: it, and Nothing.
func TestOnOfNoState(t *testing.T) {
	for _, state := range noStates() {
		for _, kind := range someKinds() {
			if next, what := On(state, kind); next != state || what != Nothing {
				t.Errorf("On %d, %d: %d, %d", state, kind, next, what)
			}
		}
	}
}

// P15.1: Take in each state, however it was come to, of each kind and of kinds that there aren't.
func TestTakeInEachState(t *testing.T) {
	for _, x := range allComings() {
		for _, kind := range someKinds() {
			b := at(t, x)
			state, what := cellOf(x.state, kind)
			held := len(x.held)
			switch {
			case what == Hold && held < 4:
				held++
			case what == Hold && x.state == Waiting:
				state, what, held = Closed, Bad, 0
			case what == Hold:
				state, what, held = Closed, Ruin, 0
			case state == Closed:
				held = 0
			}
			b.wantTake(with(kind, "xyz"), what, state, held)
		}
	}
}

// P15.1: none to four frames are held, of each kind that may be; a fifth one is Bad in Waiting and Ruin in Ending, it
// is Closed then, and holds none.
func TestHeldFrames(t *testing.T) {
	waiting := []call{take(1), take(2)}
	ending := join(waiting, []call{bound(), take(5)})
	for _, x := range []struct {
		by           []call
		state, fifth int
	}{
		{waiting, Waiting, Bad},
		{ending, Ending, Ruin},
		{join(ending, []call{done(), take(2)}), Waiting, Bad},
		{join(ending, []call{abort(), take(2), bound(), take(4)}), Ending, Ruin},
		{join(waiting, many(4, 3), []call{bound(), next(), next(), next(), next(), take(4)}), Ending, Ruin},
		{join(ending, []call{take(2), done(), next()}), Waiting, Bad},
	} {
		for kind := 1; kind <= 5; kind++ {
			for last := 1; last <= 5; last++ {
				b := start(t, x.by...)
				b.want(x.state, 0)
				for i := range 4 {
					b.wantTake(with(kind, fmt.Sprint(i)), Hold, x.state, i+1)
					b.wantNoNext()
				}
				b.wantTake(with(last, "fifth"), x.fifth, Closed, 0)
				b.wantTake(take(last), Nothing, Closed, 0)
				b.wantNoNext()
			}
		}
	}
}

// P15.1: a frame that isn't one to be held ends it as the table says, though there is no room.
func TestOthersThoughFull(t *testing.T) {
	waiting := join([]call{take(1), take(2)}, many(4, 3))
	ending := join([]call{take(1), take(2), bound(), take(4)}, many(4, 3))
	for _, kind := range []int{6, 7, 0, 9, -1, math.MinInt, math.MaxInt} {
		start(t, waiting...).wantTake(take(kind), Bad, Closed, 0)
		start(t, ending...).wantTake(take(kind), Ruin, Closed, 0)
	}
	start(t, waiting...).wantTake(take(8), Bye, Closed, 0)
	start(t, ending...).wantTake(take(8), Break, Closed, 0)
}

// P15.1: room that Next made is room again: the four are those that are held at a time.
func TestRoomAgain(t *testing.T) {
	b := start(t, join([]call{take(1), take(2), bound(), take(4)}, many(4, 2))...)
	b.wantDid(done(), Idle, 4)
	for i := range 50 {
		c := with(2, fmt.Sprint("data ", i))
		b.wantNext(c, Wait, Waiting, 3)
		b.wantTake(with(2, fmt.Sprint("data ", i+4)), Hold, Waiting, 4)
		b.wantNoNext()
		b.wantDid(bound(), Bound, 4)
		b.wantTake(take(5), Pass, Ending, 4)
		b.wantDid(done(), Idle, 4)
	}
	b.wantNext(with(2, "data 50"), Wait, Waiting, 3)
	b.wantTake(take(3), Hold, Waiting, 4)
	b.wantTake(take(3), Bad, Closed, 0)
}

// P15.1: frames that were held in Waiting are there still behind Bound, and are passed in their row.
func TestHeldBehindBound(t *testing.T) {
	row := []call{with(3, "a"), with(3, ""), with(3, "c"), with(5, "d")}
	b := start(t, join([]call{take(1), take(2)}, row)...)
	b.wantNoNext()
	b.wantDid(bound(), Bound, 4)
	b.wantNext(row[0], Pass, Bound, 3)
	b.wantNext(row[1], Pass, Bound, 2)
	b.wantNext(row[2], Pass, Bound, 1)
	b.wantNext(row[3], Pass, Ending, 0)
	b.wantNoNext()
	b.wantDid(done(), Idle, 0)
	b.wantNoNext()
}

// P15.1: frames that were held are there still behind Done: a transaction of theirs begins, and so on.
func TestHeldBehindDone(t *testing.T) {
	b := start(t, take(1), take(2), with(3, "a"), with(4, "b"), with(2, "c"), with(3, "d"), bound())
	b.wantNext(with(3, "a"), Pass, Bound, 3)
	b.wantNext(with(4, "b"), Pass, Ending, 2)
	b.wantNoNext()
	b.wantTake(with(4, "e"), Hold, Ending, 3)
	b.wantTake(with(2, "f"), Hold, Ending, 4)
	b.wantDid(done(), Idle, 4)
	b.wantNext(with(2, "c"), Wait, Waiting, 3)
	b.wantNoNext()
	b.wantDid(bound(), Bound, 3)
	b.wantNext(with(3, "d"), Pass, Bound, 2)
	b.wantNext(with(4, "e"), Pass, Ending, 1)
	b.wantDid(done(), Idle, 1)
	b.wantNext(with(2, "f"), Wait, Waiting, 0)
	b.wantNoNext()
}

// P15.1: frames that were held are there still behind Abort: those of the aborted transaction come to nothing, and
// the one behind it begins.
func TestHeldBehindAbort(t *testing.T) {
	row := []call{with(3, "a"), with(4, "b"), with(2, "c"), with(3, "d")}
	b := start(t, join([]call{take(1), take(2)}, row)...)
	b.wantDid(abort(), Skipping, 4)
	b.wantNext(row[0], Nothing, Skipping, 3)
	b.wantNext(row[1], Nothing, Idle, 2)
	b.wantNext(row[2], Wait, Waiting, 1)
	b.wantNoNext()
	b.wantDid(bound(), Bound, 1)
	b.wantNext(row[3], Pass, Bound, 0)

	b = start(t, join([]call{take(1), take(2)}, row, []call{bound(), next()})...)
	b.wantDid(abort(), Skipping, 3)
	b.wantNext(row[1], Nothing, Idle, 2)
	b.wantNext(row[2], Wait, Waiting, 1)
	b.wantDid(abort(), Skipping, 1)
	b.wantNext(row[3], Nothing, Skipping, 0)
	b.wantNoNext()
	b.wantTake(take(5), Nothing, Idle, 0)

	b = start(t, take(1), take(2), bound(), take(4), with(2, "e"), with(3, "f"))
	b.wantDid(abort(), Idle, 2)
	b.wantNext(with(2, "e"), Wait, Waiting, 1)
	b.wantDid(bound(), Bound, 1)
	b.wantNext(with(3, "f"), Pass, Bound, 0)
}

// P15.1: a held frame that closes it, of each state in which Next takes one: then none is held any more.
func TestNextThatCloses(t *testing.T) {
	tail := many(2, 3)
	for _, x := range []struct {
		by   []call
		last call
		what int
	}{
		{[]call{bound()}, with(1, "x"), Ruin},
		{[]call{bound()}, with(2, "x"), Ruin},
		{[]call{abort()}, with(1, "x"), Bad},
		{[]call{abort()}, with(2, "x"), Bad},
		{[]call{abort(), take(4)}, with(1, "x"), Bad},
		{[]call{abort(), take(4)}, with(3, "x"), Bad},
		{[]call{abort(), take(4)}, with(4, "x"), Bad},
		{[]call{abort(), take(4)}, with(5, "x"), Bad},
		{[]call{bound(), take(4), done()}, with(1, "x"), Bad},
		{[]call{bound(), take(4), done()}, with(3, "x"), Bad},
		{[]call{bound(), take(4), abort()}, with(5, "x"), Bad},
	} {
		b := start(t, join([]call{take(1), take(2), x.last}, tail, x.by)...)
		b.wantNext(x.last, x.what, Closed, 0)
		b.wantNoNext()
		b.wantNot(bound(), done(), abort(), quit())
	}
}

// P15.1: there is none of Waiting, none of Ending, and none of none held.
func TestNoNext(t *testing.T) {
	for _, x := range allComings() {
		b := at(t, x)
		if x.state == Waiting || x.state == Ending || len(x.held) == 0 {
			b.wantNoNext()
			continue
		}
		state, what := cellOf(x.state, x.held[0].frame.Kind)
		held := len(x.held) - 1
		if state == Closed {
			held = 0
		}
		b.wantNext(x.held[0], what, state, held)
	}
}

// P15.1: a frame is told as it was handed in: any data, none and long.
func TestData(t *testing.T) {
	datas := []string{"", "a", " ", "\x00", "\n", "\xff\xfe", "höst", "0123456789abcdef", strings.Repeat("long", 300), strings.Repeat("x", 70000)}
	for _, data := range datas {
		for _, other := range datas {
			b := start(t, with(1, data), with(2, data), with(3, data), with(3, other), with(4, data), with(1, other), bound())
			b.wantNext(with(3, data), Pass, Bound, 3)
			b.wantNext(with(3, other), Pass, Bound, 2)
			b.wantNext(with(4, data), Pass, Ending, 1)
			b.wantDid(done(), Idle, 1)
			b.wantNext(with(1, other), Bad, Closed, 0)
		}
	}
}

// P15.1: Bound, Done, Abort and Quit from each state, however it was come to; held frames stay, but where it is Closed.
func TestEachCallFromEachState(t *testing.T) {
	for _, x := range allComings() {
		for _, y := range []struct {
			c  call
			to map[int]int
		}{
			{bound(), map[int]int{Waiting: Bound}},
			{done(), map[int]int{Ending: Idle}},
			{abort(), map[int]int{Waiting: Skipping, Bound: Skipping, Ending: Idle}},
			{quit(), map[int]int{Fresh: Closed, Idle: Closed, Waiting: Closed, Bound: Closed, Ending: Closed, Skipping: Closed}},
		} {
			b := at(t, x)
			to, does := y.to[x.state]
			if !does {
				b.wantNot(y.c, y.c)
				b.want(x.state, len(x.held))
				b.showsHeld(x.held)
				continue
			}
			held := x.held
			if to == Closed {
				held = nil
			}
			b.wantDid(y.c, to, len(held))
			b.showsHeld(held)
		}
	}
}

// showsHeld has those that are held told, as long as each leaves it open.
func (b *both) showsHeld(held []call) {
	b.t.Helper()
	for _, c := range held {
		switch b.f.State() {
		case Waiting:
			b.do(bound())
		case Ending:
			b.do(done())
		}
		if is := b.do(next()); is.frame != c.frame || !is.did {
			b.t.Fatalf("Next: %+v, want %+v", is, c.frame)
		}
		if b.f.State() == Closed {
			b.want(Closed, 0)
			return
		}
	}
	b.want(b.f.State(), 0)
}

// R3: behind calls that told false, all goes on as if they hadn't been.
func TestWhatARefusedCallLeaves(t *testing.T) {
	for _, x := range allComings() {
		b := at(t, x)
		for range 2 {
			for _, c := range []call{bound(), done(), abort(), quit(), next()} {
				_, does := goes[c.name][x.state]
				if c.name == "next" {
					does = len(x.held) > 0 && x.state != Waiting && x.state != Ending
				}
				if !does {
					b.wantNot(c)
				}
			}
		}
		b.want(x.state, len(x.held))
		b.showsHeld(x.held)
		for _, c := range []call{take(1), take(2), take(3), bound(), next(), take(3), take(4), take(2), done(), next(), abort(), quit()} {
			b.do(c)
		}
	}
}

// P15.1: of one that is Closed nothing does anything any more, however it came to be.
func TestClosed(t *testing.T) {
	for _, x := range allComings() {
		b := at(t, x)
		if x.state == Closed {
			b.wantNot(quit())
		} else {
			b.wantDid(quit(), Closed, 0)
		}
		for range 2 {
			for _, kind := range someKinds() {
				b.wantTake(with(kind, "x"), Nothing, Closed, 0)
			}
			b.wantNoNext()
			b.wantNot(bound(), done(), abort(), quit())
			b.want(Closed, 0)
		}
	}
}

// P15.1: the names of the states; there is none of what is no state.
func TestName(t *testing.T) {
	for i, want := range []string{"new", "idle", "waiting", "bound", "ending", "skipping", "closed"} {
		if name := Name(i); name != want {
			t.Errorf("Name %d: %q, want %q", i, name, want)
		}
	}
	for _, state := range noStates() {
		if name := Name(state); name != "" {
			t.Errorf("Name %d: %q", state, name)
		}
	}
}

// R7: every method of nil.
func TestNil(t *testing.T) {
	var f *Front
	for range 2 {
		for _, kind := range someKinds() {
			if is := with(kind, "x").do(f); is != (answer{}) {
				t.Errorf("Take of %d of nil: %+v", kind, is)
			}
		}
		for _, c := range []call{next(), bound(), done(), abort(), quit()} {
			if is := c.do(f); is != (answer{}) {
				t.Errorf("%s of nil: %+v", c.name, is)
			}
		}
		if f.State() != Closed || f.Held() != 0 {
			t.Errorf("nil is %d and holds %d", f.State(), f.Held())
		}
	}
}

// T0: one that New did not make is as one that it made.
func TestUnmade(t *testing.T) {
	b := &both{t, &Front{}, &plain{}}
	b.hold()
	b.wantNoNext()
	b.wantNot(bound(), done(), abort())
	b.wantTake(take(1), Welcome, Idle, 0)
	b.wantTake(take(2), Wait, Waiting, 0)
	b.wantTake(with(3, "a"), Hold, Waiting, 1)
	b.wantDid(bound(), Bound, 1)
	b.wantNext(with(3, "a"), Pass, Bound, 0)
	for _, f := range []*Front{{}, New()} {
		if !f.Quit() || f.State() != Closed {
			t.Error("Quit of a Fresh one")
		}
	}
}

// R6: two of these have nothing to do with each other.
func TestApart(t *testing.T) {
	a, b := start(t, take(1), take(2), with(3, "a"), with(4, "b")), start(t)
	b.want(Fresh, 0)
	b.wantTake(take(1), Welcome, Idle, 0)
	b.wantTake(take(2), Wait, Waiting, 0)
	b.wantTake(with(3, "c"), Hold, Waiting, 1)
	a.wantDid(bound(), Bound, 2)
	b.wantNoNext()
	a.wantNext(with(3, "a"), Pass, Bound, 1)
	b.wantDid(abort(), Skipping, 1)
	a.wantNext(with(4, "b"), Pass, Ending, 0)
	b.wantNext(with(3, "c"), Nothing, Skipping, 0)
	a.wantDid(quit(), Closed, 0)
	b.wantTake(take(4), Nothing, Idle, 0)
	r := rand.New(rand.NewSource(3))
	for range 300 {
		a, b := start(t), start(t)
		for range 60 {
			one := a
			if r.Intn(2) == 0 {
				one = b
			}
			one.do(anyCall(r, one.f.State()))
			a.hold()
			b.hold()
		}
	}
}

// anyCall is a call of any kind; as a rule it is one that leaves what is in this state open, so that rows are long.
func anyCall(r *rand.Rand, state int) call {
	switch n := r.Intn(200); {
	case n == 0:
		return quit()
	case n == 1:
		return take(8)
	case n < 4:
		return take(someKinds()[r.Intn(len(someKinds()))])
	case n < 20:
		return []call{bound(), done(), abort(), next()}[r.Intn(4)]
	case n < 100:
		return next()
	}
	likely := [][]call{
		Fresh:    {take(1)},
		Idle:     {take(2)},
		Waiting:  {bound(), bound(), abort(), take(2), take(3), take(3), take(3), take(4), take(5)},
		Bound:    {abort(), take(3), take(3), take(3), take(3), take(4), take(5)},
		Ending:   {done(), done(), abort(), take(2), take(2), take(2), take(3), take(4)},
		Skipping: {take(3), take(3), take(4), take(5)},
		Closed:   {bound(), done(), abort(), take(1), take(2)},
	}[state]
	c := likely[r.Intn(len(likely))]
	if c.name == "take" {
		c.frame.Data = strings.Repeat("x", r.Intn(3)) + fmt.Sprint(r.Intn(1000))
	}
	return c
}

// P15.1: thousands of calls in mixed rows answer as the plain one does.
func TestAnyRows(t *testing.T) {
	r := rand.New(rand.NewSource(1))
	var seen, held [7]int
	var whats [9]int
	taken := 0
	b := start(t)
	for range 200000 {
		if b.f.State() == Closed && r.Intn(3) == 0 {
			b = start(t)
		}
		c := anyCall(r, b.f.State())
		seen[b.f.State()]++
		held[b.f.Held()]++
		is := b.do(c)
		if c.name == "take" || is.did {
			whats[is.what]++
		}
		if c.name == "next" && is.did {
			taken++
		}
	}
	if slices.Min(seen[:]) < 2000 || slices.Min(held[:5]) < 1000 || slices.Min(whats[:]) < 100 || taken < 5000 {
		t.Errorf("too few to tell anything: states %v, held %v, to be done %v, %d taken", seen, held, whats, taken)
	}
}

// P15.1: all rows of five calls, behind rows that lead to each state.
func TestAllShortRows(t *testing.T) {
	calls := []call{with(1, "h"), with(2, "b"), with(3, "q"), with(4, "c"), take(8), take(6), next(), bound(), done(), abort(), quit()}
	heads := [][]call{
		nil,
		{take(1), take(2), with(3, "x"), with(4, "y"), with(2, "z")},
		{take(1), take(2), bound(), with(5, "v"), with(2, "w"), with(3, "x"), with(4, "y")},
	}
	for _, head := range heads {
		for number := range 11 * 11 * 11 * 11 * 11 {
			f, p := New(), &plain{}
			for _, c := range head {
				c.do(f)
				p.do(c)
			}
			for range 5 {
				c := calls[number%11]
				number /= 11
				is, want := c.do(f), p.do(c)
				if is != want || f.State() != p.state || f.Held() != p.held() {
					t.Fatalf("%s of %+v behind %v: %+v, want %+v; %d and %d, want %d and %d", c.name, c.frame, p.row, is, want, f.State(), f.Held(), p.state, p.held())
				}
				if p.state == Closed {
					break
				}
			}
		}
	}
}

// P15.2: in many rows of calls each frame that is to be passed lies between Bound and the Commit or Rollback behind
// it: Queries, and one of these two, last; behind an abort none is passed till it is bound anew.
func TestWhatIsPassed(t *testing.T) {
	r := rand.New(rand.NewSource(2))
	bounds, queries, lasts, aborts, skipped := 0, 0, 0, 0, 0
	for range 20000 {
		f := New()
		open, aborted := false, false
		for range 40 {
			c := anyCall(r, f.State())
			is := c.do(f)
			x := c.frame
			if c.name == "next" {
				x = is.frame
			}
			switch {
			case c.name == "bound" && is.did:
				if open {
					t.Fatal("bound, while it was bound already")
				}
				open, aborted = true, false
				bounds++
			case c.name == "abort" && is.did:
				if open {
					aborts++
				}
				open, aborted = false, true
			case is.what == Pass && !open:
				t.Fatalf("%+v is passed, while it is not bound (aborted: %v)", x, aborted)
			case is.what == Pass && x.Kind == api.Query:
				queries++
			case is.what == Pass && (x.Kind == api.Commit || x.Kind == api.Rollback):
				open = false
				lasts++
			case is.what == Pass:
				t.Fatalf("%+v is passed", x)
			case aborted && is.what == Nothing && f.State() == Skipping && (c.name == "take" || is.did):
				skipped++
			}
			if f.State() == Closed {
				open = false
			}
			if open != (f.State() == Bound) {
				t.Fatalf("it is %s, and open: %v", Name(f.State()), open)
			}
		}
	}
	if bounds < 3000 || queries < 3000 || lasts < 1000 || aborts < 300 || skipped < 1000 {
		t.Errorf("%d bound, %d queries, %d last ones, %d aborts, %d skipped: too few to tell anything", bounds, queries, lasts, aborts, skipped)
	}
}

// trade is a client that sends one transaction behind another, each frame with its transaction's number, and a pooler
// that takes what is held ahead of what comes.
type trade struct {
	f         *Front
	sent      int         // the transaction that the client is in
	inside    bool        // whether its Begin was sent, and its last frame not
	passed    map[int]int // how many frames of each transaction were passed
	ended     map[int]bool
	abortedAt map[int]bool
	now       int // the transaction that the pooler is in: that of the last Begin that was taken
}

// gets is what comes of a frame that was taken.
func (d *trade) gets(t *testing.T, x api.Frame, what int) {
	t.Helper()
	number := len(x.Data)
	switch what {
	case Wait:
		d.now = number
	case Pass:
		if number != d.now || d.abortedAt[number] || d.ended[number] {
			t.Fatalf("a frame of transaction %d is passed in %d (aborted: %v, ended: %v)", number, d.now, d.abortedAt[number], d.ended[number])
		}
		d.passed[number]++
		d.ended[number] = x.Kind != api.Query
	case Nothing:
		if number != d.now || !d.abortedAt[number] {
			t.Fatalf("a frame of transaction %d is skipped in %d", number, d.now)
		}
	case Welcome, Hold:
	default:
		t.Fatalf("%+v is %s", x, whatWords[what])
	}
}

// sends is the next frame of the client.
func (d *trade) sends(r *rand.Rand) api.Frame {
	kind := api.Begin
	switch {
	case !d.inside:
		d.sent++
		d.inside = true
	case r.Intn(3) > 0:
		kind = api.Query
	default:
		kind = api.Commit + r.Intn(2)
		d.inside = false
	}
	return api.Frame{Kind: kind, Data: strings.Repeat("t", d.sent)}
}

// turn is a turn of the pooler, then of the client.
func (d *trade) turn(t *testing.T, r *rand.Rand) {
	t.Helper()
	switch r.Intn(6) {
	case 0, 1:
		d.f.Bound()
	case 2, 3:
		d.f.Done()
	case 4:
		if r.Intn(3) == 0 && d.f.Abort() {
			d.abortedAt[d.now] = true
		}
	}
	for taken := 0; ; taken++ {
		x, what, is := d.f.Next()
		if !is {
			break
		}
		if taken == api.MaxHeld {
			t.Fatal("more frames were held than may be")
		}
		d.gets(t, x, what)
	}
	if d.f.Held() < api.MaxHeld {
		x := d.sends(r)
		d.gets(t, x, d.f.Take(x))
	}
}

// P15.2: of a client that keeps to the rules each frame that is passed is of the transaction that is bound; of one
// that is aborted none is behind the abort, and all of one that is not are.
func TestNothingOfAnAbortedOne(t *testing.T) {
	r := rand.New(rand.NewSource(5))
	whole, aborted := 0, 0
	for range 200 {
		d := &trade{f: New(), passed: map[int]int{}, ended: map[int]bool{}, abortedAt: map[int]bool{}}
		d.f.Take(api.Frame{Kind: api.Hello})
		for range 400 {
			d.turn(t, r)
		}
		for number := 1; number < d.now; number++ {
			if !d.abortedAt[number] && !d.ended[number] {
				t.Fatalf("transaction %d of %d was neither aborted nor passed to its end", number, d.now)
			}
			if d.abortedAt[number] {
				aborted++
			} else {
				whole++
			}
		}
	}
	if whole < 2000 || aborted < 2000 {
		t.Errorf("%d whole, %d aborted: too few to tell anything", whole, aborted)
	}
}

// R4: what is held is not handed out again, and nothing of it is left of a row that was taken.
func TestNothingIsLeft(t *testing.T) {
	b := start(t, join([]call{take(1), take(2)}, many(4, 3), []call{bound()})...)
	all := b.f.held
	for i := range 4 {
		b.wantNext(with(3, fmt.Sprint("data ", i)), Pass, Bound, 3-i)
	}
	b.wantNoNext()
	for _, x := range all {
		if x != (api.Frame{}) {
			t.Errorf("%+v is kept, though it was taken", x)
		}
	}
	b = start(t, join([]call{take(1), take(2)}, many(4, 3), []call{quit()})...)
	if cap(b.f.held) != 0 {
		t.Error("frames are kept, though it is Closed")
	}
}

// R6: one row of calls answers the same each time, whatever others did meanwhile.
func TestOneAnswer(t *testing.T) {
	row := func() string {
		r := rand.New(rand.NewSource(4))
		var all strings.Builder
		for range 30 {
			b := start(t)
			for range 60 {
				all.WriteString(fmt.Sprint(b.do(anyCall(r, b.f.State())), b.f.State(), b.f.Held()))
			}
		}
		return all.String()
	}
	if first := row(); first != row() {
		t.Error("one row of calls was told in two ways")
	}
}
