package wheel

import "cmp"

// entry is a key's deadline, and where it lies in the order.
type entry struct {
	key, at, place int
}

// compare is below 0 if e is ahead of f: by deadline, and of one deadline by key.
func (e *entry) compare(f *entry) int {
	if e.at != f.at {
		return cmp.Compare(e.at, f.at)
	}
	return cmp.Compare(e.key, f.key)
}

// order is entries as container/heap keeps them: the one of the least deadline is the first.
type order []*entry

func (o order) Len() int { return len(o) }

func (o order) Less(i, j int) bool { return o[i].compare(o[j]) < 0 }

// Swap keeps each entry's place true: by it a deadline is moved, or removed, without a search.
func (o order) Swap(i, j int) {
	o[i], o[j] = o[j], o[i]
	o[i].place, o[j].place = i, j
}

func (o *order) Push(x any) {
	e := x.(*entry)
	e.place = len(*o)
	*o = append(*o, e)
}

func (o *order) Pop() any {
	last := len(*o) - 1
	e := (*o)[last]
	(*o)[last] = nil // lest the list keeps an entry that is taken out
	*o = (*o)[:last]
	return e
}
