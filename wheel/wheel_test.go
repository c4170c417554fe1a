package wheel

import (
	"math"
	"math/rand"
	"slices"
	"testing"
)

const maxTick = 1 << 40

// realTick is layer 1's cut, in other words than the program's.
func realTick(n int) int {
	switch {
	case n <= 0:
		return 0
	case n < maxTick:
		return n
	}
	return maxTick
}

type pair struct{ key, at int }

// plain is a list of keys and deadlines, in the row in which they were set: it is searched from end to end each time.
type plain struct{ pairs []pair }

func (p *plain) find(key int) int {
	return slices.IndexFunc(p.pairs, func(x pair) bool { return x.key == key })
}

func (p *plain) Set(key, at int) bool {
	if i := p.find(key); i >= 0 {
		p.pairs[i].at = realTick(at)
		return true
	}
	p.pairs = append(p.pairs, pair{key, realTick(at)})
	return false
}

func (p *plain) Cancel(key int) bool {
	i := p.find(key)
	if i < 0 {
		return false
	}
	p.pairs = slices.Delete(p.pairs, i, i+1)
	return true
}

func (p *plain) At(key int) (int, bool) {
	if i := p.find(key); i >= 0 {
		return p.pairs[i].at, true
	}
	return 0, false
}

func (p *plain) Len() int { return len(p.pairs) }

func (p *plain) Due(now int) []int {
	var due []int
	var rest []pair
	for _, x := range p.pairs {
		if realTick(now) < x.at {
			rest = append(rest, x)
		} else {
			due = append(due, x.key)
		}
	}
	p.pairs = rest
	slices.Sort(due)
	return due
}

func (p *plain) Next() (int, bool) {
	if len(p.pairs) == 0 {
		return 0, false
	}
	least := p.pairs[0].at
	for _, x := range p.pairs {
		least = min(least, x.at)
	}
	return least, true
}

func (p *plain) Keys() []int {
	var keys []int
	left := slices.Clone(p.pairs)
	for len(left) > 0 {
		first := 0
		for i, x := range left {
			if x.at < left[first].at || x.at == left[first].at && x.key < left[first].key {
				first = i
			}
		}
		keys = append(keys, left[first].key)
		left = slices.Delete(left, first, first+1)
	}
	return keys
}

// same asks both all that they tell without a change.
func same(t *testing.T, w *Wheel, p *plain, keys []int) {
	t.Helper()
	if w.Len() != p.Len() {
		t.Fatalf("Len: %d, want %d", w.Len(), p.Len())
	}
	at, is := w.Next()
	if wantAt, wantIs := p.Next(); at != wantAt || is != wantIs {
		t.Fatalf("Next: %d, %v, want %d, %v", at, is, wantAt, wantIs)
	}
	if l := w.Keys(); !slices.Equal(l, p.Keys()) {
		t.Fatalf("Keys: %v, want %v", l, p.Keys())
	}
	for _, key := range keys {
		at, is := w.At(key)
		if wantAt, wantIs := p.At(key); at != wantAt || is != wantIs {
			t.Fatalf("At %d: %d, %v, want %d, %v", key, at, is, wantAt, wantIs)
		}
	}
	if len(w.entries) != p.Len() || len(w.order) != p.Len() {
		t.Fatalf("it keeps %d and %d entries of %d keys", len(w.entries), len(w.order), p.Len())
	}
	for i, e := range w.order[:cap(w.order)] {
		if (e != nil) != (i < p.Len()) {
			t.Fatalf("of %d keys it keeps an entry, or none, in place %d: %v", p.Len(), i, e)
		}
	}
}

// someKeys has keys below 0, of layer 20's form, and the greatest there are.
func someKeys() []int {
	return []int{math.MinInt, math.MinInt + 1, -(1 << 40), -7, -2, -1, 0, 1, 2, 3, 9, 10, 1<<32 - 1, 1 << 32, 3<<32 + 4, 1000<<32 + 1, math.MaxInt - 1, math.MaxInt}
}

// someTicks has what is no tick, too.
func someTicks() []int {
	return []int{math.MinInt, -maxTick, -1, 0, 1, 2, 3, 4, 5, 6, 7, 8, 12, 1 << 20, maxTick - 1, maxTick, maxTick + 1, 1 << 60, math.MaxInt}
}

// P4.1: any calls, in any row, answer as a plain list does; a wheel keeps nothing of keys that are out of it.
func TestAnyRow(t *testing.T) {
	r := rand.New(rand.NewSource(4))
	keys, ticks := someKeys(), someTicks()
	for range 120 {
		w, p := New(), &plain{}
		mostKeys, mostTicks := 1+r.Intn(len(keys)), 1+r.Intn(len(ticks))
		for range 60 {
			key, at := keys[r.Intn(mostKeys)], ticks[r.Intn(mostTicks)]
			switch r.Intn(8) {
			case 0, 1, 2, 3, 4:
				if had, want := w.Set(key, at), p.Set(key, at); had != want {
					t.Fatalf("Set %d, %d: %v, want %v", key, at, had, want)
				}
			case 5, 6:
				if had, want := w.Cancel(key), p.Cancel(key); had != want {
					t.Fatalf("Cancel %d: %v, want %v", key, had, want)
				}
			case 7:
				if l, want := w.Due(at), p.Due(at); !slices.Equal(l, want) {
					t.Fatalf("Due %d: %v, want %v", at, l, want)
				}
			}
			same(t, w, p, keys)
		}
	}
}

// P4.1: as above, with more keys, so that they lie deep in the heap.
func TestManyKeys(t *testing.T) {
	r := rand.New(rand.NewSource(44))
	w, p := New(), &plain{}
	now := 0
	for i := range 3000 {
		key := r.Intn(400) - 200
		switch {
		case i%10 < 6:
			if at := now + r.Intn(60); w.Set(key, at) != p.Set(key, at) {
				t.Fatalf("Set %d", key)
			}
		case i%10 < 9:
			if w.Cancel(key) != p.Cancel(key) {
				t.Fatalf("Cancel %d", key)
			}
		default:
			now += r.Intn(9) - 2
			if l, want := w.Due(now), p.Due(now); !slices.Equal(l, want) {
				t.Fatalf("Due %d: %v, want %v", now, l, want)
			}
		}
		if i%25 == 0 {
			same(t, w, p, []int{key})
		}
	}
	for p.Len() > 0 {
		next, _ := w.Next()
		if l, want := w.Due(next), p.Due(next); !slices.Equal(l, want) || len(l) == 0 {
			t.Fatalf("Due %d: %v, want %v", next, l, want)
		}
		same(t, w, p, nil)
	}
}

func due(t *testing.T, w *Wheel, now int, want ...int) {
	t.Helper()
	if l := w.Due(now); !slices.Equal(l, want) {
		t.Errorf("Due %d: %v, want %v", now, l, want)
	}
}

// P4.1: the chapter's example.
func TestExample(t *testing.T) {
	w := New()
	w.Set(7, 10)
	w.Set(3, 10)
	due(t, w, 9)
	due(t, w, 12, 3, 7)
	due(t, w, 12)
}

// P4.1: a key that is set again has the new deadline alone, be it earlier or later.
func TestSetAgain(t *testing.T) {
	w := New()
	for i, x := range []struct {
		key, at int
		had     bool
	}{{1, 10, false}, {2, 10, false}, {1, 20, true}, {2, 5, true}, {3, 7, false}, {3, 7, true}} {
		if had := w.Set(x.key, x.at); had != x.had {
			t.Errorf("%d: %v", i, had)
		}
	}
	if w.Len() != 3 || !slices.Equal(w.Keys(), []int{2, 3, 1}) {
		t.Errorf("%d keys: %v", w.Len(), w.Keys())
	}
	due(t, w, 6, 2)
	due(t, w, 19, 3)
	due(t, w, 20, 1)
	due(t, w, maxTick)
}

// P4.1: a key that is cancelled is not due; one that is set behind that is; so is one that was due already.
func TestCancel(t *testing.T) {
	w := New()
	w.Set(1, 10)
	w.Set(2, 10)
	w.Set(3, 30)
	if !w.Cancel(1) || w.Cancel(1) || w.Cancel(9) {
		t.Error("had it a deadline?")
	}
	if at, is := w.At(1); at != 0 || is || w.Len() != 2 {
		t.Error(at, is, w.Len())
	}
	due(t, w, 10, 2)
	if w.Cancel(2) || w.Set(2, 11) || w.Set(1, 12) || !w.Cancel(3) || w.Set(3, 12) {
		t.Error("had it a deadline?")
	}
	due(t, w, 11, 2)
	due(t, w, 30, 1, 3)
	if at, is := w.Next(); at != 0 || is || w.Len() != 0 {
		t.Error(at, is, w.Len())
	}
}

// P4.1: deadlines, and ticks that are asked, are cut.
func TestCut(t *testing.T) {
	for _, x := range []struct{ at, want int }{
		{math.MinInt, 0}, {-1, 0}, {0, 0}, {1, 1}, {maxTick - 1, maxTick - 1},
		{maxTick, maxTick}, {maxTick + 1, maxTick}, {1 << 60, maxTick}, {math.MaxInt, maxTick},
	} {
		w := New()
		w.Set(5, x.at)
		if at, is := w.At(5); at != x.want || !is {
			t.Errorf("At, set to %d: %d, %v", x.at, at, is)
		}
		if at, is := w.Next(); at != x.want || !is {
			t.Errorf("Next, set to %d: %d, %v", x.at, at, is)
		}
		if x.want > 0 {
			due(t, w, x.want-1)
			due(t, w, math.MinInt)
		}
		due(t, w, x.at, 5)
		due(t, w, x.at)
	}
	w := New()
	w.Set(1, math.MaxInt)
	w.Set(2, maxTick)
	w.Set(3, -5)
	w.Set(4, 0)
	if l := w.Keys(); !slices.Equal(l, []int{3, 4, 1, 2}) {
		t.Errorf("of one deadline when cut: %v", l)
	}
	due(t, w, -1, 3, 4)
	due(t, w, maxTick-1)
	due(t, w, math.MaxInt, 1, 2)
}

// P4.1: many keys of one deadline are told rising, in whatever row they were set.
func TestOneDeadline(t *testing.T) {
	w := New()
	var want []int
	for i := range 500 {
		w.Set((i*7919)%500-250, 8)
		want = append(want, i-250)
	}
	if l := w.Keys(); !slices.Equal(l, want) {
		t.Errorf("%v", l)
	}
	due(t, w, 7)
	due(t, w, 8, want...)
	due(t, w, 9)
}

// P4.1: Due tells by key, Keys by deadline ahead of that.
func TestRows(t *testing.T) {
	w := New()
	for i, key := range []int{40, -3, 12, math.MinInt, 7, math.MaxInt} {
		w.Set(key, 10+i)
	}
	if l := w.Keys(); !slices.Equal(l, []int{40, -3, 12, math.MinInt, 7, math.MaxInt}) {
		t.Errorf("%v", l)
	}
	due(t, w, 15, math.MinInt, -3, 7, 12, 40, math.MaxInt)
}

// P4.2: each key is told once, at the first tick asked that isn't below its deadline, whether ticks rise, stay or go back.
func TestOnce(t *testing.T) {
	for _, ticks := range [][]int{
		{0, 1, 2, 3, 4, 5, 6, 7, 8, 9},
		{3, 3, 3, 9, 9},
		{9, 0, 5, 9},
		{2, 1, 4, 0, 4, 3, 8, 7, 9},
		{-1, 20, -1, 20},
		{math.MinInt, 5, math.MaxInt, math.MinInt},
	} {
		w := New()
		for key := range 30 {
			w.Set(key, key%10)
		}
		times := map[int]int{}
		highest := -1
		for _, now := range ticks {
			told := w.Due(now)
			if !slices.IsSorted(told) {
				t.Errorf("%v: at %d: %v", ticks, now, told)
			}
			for _, key := range told {
				times[key]++
				if times[key] > 1 || realTick(now) < key%10 || highest >= key%10 {
					t.Errorf("%v: %d is told at %d, time %d", ticks, key, now, times[key])
				}
			}
			highest = max(highest, realTick(now))
		}
		if len(times) != 30 || w.Len() != 0 {
			t.Errorf("%v: %d keys are told, %d are left", ticks, len(times), w.Len())
		}
	}
}

// P4.1: a wheel without keys has no deadline; so has one that was never made by New.
func TestEmpty(t *testing.T) {
	for _, w := range []*Wheel{New(), new(Wheel)} {
		same(t, w, &plain{}, someKeys())
		due(t, w, math.MaxInt)
		if w.Cancel(0) || w.Set(0, 3) || !w.Set(0, 4) {
			t.Error("had it a deadline?")
		}
		due(t, w, 4, 0)
	}
}

// P4.1: 2^32 times kind, and id, and back; out of their bounds, the nearer one.
func TestKey(t *testing.T) {
	const big = 1 << 32
	for _, x := range []struct{ kind, id, realKind, realId int }{
		{0, 0, 0, 0}, {3, 4, 3, 4}, {0, big - 1, 0, big - 1}, {1, 0, 1, 0}, {1000, big - 1, 1000, big - 1}, {999, 1, 999, 1},
		{-1, 5, 0, 5}, {math.MinInt, math.MinInt, 0, 0}, {5, -1, 5, 0}, {-1, -1, 0, 0},
		{1001, 5, 1000, 5}, {math.MaxInt, 0, 1000, 0}, {5, big, 5, big - 1}, {5, math.MaxInt, 5, big - 1}, {math.MaxInt, math.MaxInt, 1000, big - 1},
		{math.MinInt, math.MaxInt, 0, big - 1}, {big, big + 1, 1000, big - 1},
	} {
		key := Key(x.kind, x.id)
		if key != x.realKind*4294967296+x.realId {
			t.Errorf("Key %d, %d: %d", x.kind, x.id, key)
		}
		if Kind(key) != x.realKind || Id(key) != x.realId {
			t.Errorf("%d of %d, %d: back %d, %d", key, x.kind, x.id, Kind(key), Id(key))
		}
	}
	for _, x := range []struct{ key, kind, id int }{
		{-1, 0, 0}, {-big, 0, 0}, {-big - 5, 0, 0}, {math.MinInt, 0, 0}, {0, 0, 0}, {1, 0, 1},
		{big - 1, 0, big - 1}, {big, 1, 0}, {1001 * big, 1001, 0}, {math.MaxInt, 1<<31 - 1, big - 1},
	} {
		if Kind(x.key) != x.kind || Id(x.key) != x.id {
			t.Errorf("%d: %d, %d, want %d, %d", x.key, Kind(x.key), Id(x.key), x.kind, x.id)
		}
	}
}

// R7, P4.1: of nil nothing is told, and nothing panics.
func TestNil(t *testing.T) {
	var w *Wheel
	for _, n := range append(someKeys(), someTicks()...) {
		if w.Set(n, n) || w.Cancel(n) {
			t.Error("nil had a deadline")
		}
		if at, is := w.At(n); at != 0 || is {
			t.Error(at, is)
		}
		if l := w.Due(n); len(l) != 0 {
			t.Error(l)
		}
	}
	if at, is := w.Next(); at != 0 || is || w.Len() != 0 || len(w.Keys()) != 0 {
		t.Error(at, is, w.Len(), w.Keys())
	}
}

// R4: lists that are told are new memory: turning one turns neither the wheel nor another.
func TestMemory(t *testing.T) {
	w := New()
	for key := range 8 {
		w.Set(key, key)
	}
	first, second := w.Keys(), w.Keys()
	scrawl(first)
	if want := []int{0, 1, 2, 3, 4, 5, 6, 7}; !slices.Equal(second, want) || !slices.Equal(w.Keys(), want) {
		t.Errorf("%v, %v", second, w.Keys())
	}
	told := w.Due(3)
	scrawl(told)
	if l := w.Keys(); !slices.Equal(l, []int{4, 5, 6, 7}) {
		t.Errorf("%v", l)
	}
	later := w.Due(6)
	if !slices.Equal(later, []int{4, 5, 6}) || told[0] != -1 {
		t.Errorf("%v, %v", told, later)
	}
	due(t, w, 7, 7)
}

// scrawl writes on a list, and behind its end.
func scrawl(l []int) {
	l = l[:cap(l)]
	for i := range l {
		l[i] = -1
	}
}

// R6: wheels know nothing of each other.
func TestApart(t *testing.T) {
	v, w := New(), New()
	v.Set(1, 5)
	w.Set(1, 9)
	w.Set(2, 9)
	v.Cancel(1)
	if v.Len() != 0 || w.Len() != 2 {
		t.Error(v.Len(), w.Len())
	}
	due(t, v, 9)
	due(t, w, 9, 1, 2)
}
