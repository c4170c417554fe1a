// Package sat is layer 1: ticks that never wrap, and a clock that keeps one.
package sat

import "hostler/api"

// Clock is a tick that only grows.
type Clock struct {
	now int // always cut: New and Go store nothing else
}

// Cut is the tick nearest to n.
func Cut(n int) int {
	if n < 0 {
		return 0
	}
	if n > api.MaxTick {
		return api.MaxTick
	}
	return n
}

// Add is the sum of both ticks, MaxTick at most.
func Add(a, b int) int {
	// Both are cut ahead of the sum: it is 2^41 at most then, and cannot wrap.
	return Cut(Cut(a) + Cut(b))
}

// Sub is how many ticks a is more than b, 0 if it is less.
func Sub(a, b int) int {
	return Cut(Cut(a) - Cut(b))
}

// Past tells whether the deadline has come.
func Past(now, deadline int) bool {
	return Cut(now) >= Cut(deadline)
}

// Left is how many ticks are left of the deadline.
func Left(now, deadline int) int {
	return Sub(deadline, now)
}

// Sum is Add of all, one behind the other.
func Sum(l ...int) int {
	sum := 0
	for _, n := range l {
		sum = Add(sum, n)
	}
	return sum
}

// New is a clock at that tick.
func New(at int) *Clock {
	return &Clock{now: Cut(at)}
}

// Now is the clock's tick; 0 of nil.
func (c *Clock) Now() int {
	if c == nil {
		return 0
	}
	return c.now
}

// Go moves the clock on by n ticks, and answers its tick then; 0 of nil.
func (c *Clock) Go(n int) int {
	if c == nil {
		return 0
	}
	c.now = Add(c.now, n)
	return c.now
}
