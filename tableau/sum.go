package tableau

import (
	"elenchus/api"
	"elenchus/ratio"
)

// none is the number of no bound, and of no sum.
const none = -1

// limit is the tightest of some bounds.
type limit struct {
	bound int // its number, or none
	val   api.Rat
}

// tighten takes a further bound in; side is 1 if greater ones are tighter, -1 if lesser ones are.
func (l *limit) tighten(bound int, val api.Rat, side int) {
	if l.bound == none || ratio.Cmp(val, l.val) == side {
		*l = limit{bound, val}
	}
}

// sum is what a row of the problem comes to. It stands as a column, or a row tells it by columns.
type sum struct {
	row         row // nil, if it is a column, or has no bounds
	value       api.Rat
	least, most limit
	low, high   int // the value held against least and most: below 0, if it is below
}

// unbound is a sum without bounds.
func unbound() sum {
	return sum{least: limit{bound: none}, most: limit{bound: none}, low: 1, high: -1}
}

// put gives a sum a value.
func (s *sum) put(value api.Rat) {
	s.value = value
	if s.least.bound != none {
		s.low = ratio.Cmp(value, s.least.val)
	}
	if s.most.bound != none {
		s.high = ratio.Cmp(value, s.most.val)
	}
}

// broken is the limit that the value breaks, and the side to which it is to go (1 up, -1 down); 0, if it breaks none.
func (s *sum) broken() (limit, int) {
	switch {
	case s.low < 0:
		return s.least, 1
	case s.high > 0:
		return s.most, -1
	}
	return limit{bound: none}, 0
}

// rise tells the bound that keeps the value from rising, or none.
func (s *sum) rise() int {
	if s.high < 0 {
		return none
	}
	return s.most.bound
}

// fall tells the bound that keeps the value from falling, or none.
func (s *sum) fall() int {
	if s.low > 0 {
		return none
	}
	return s.least.bound
}
