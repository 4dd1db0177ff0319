package sat

import "slices"

// learn keeps a clause that the others make hold, by one of them that fails, and goes back to where its
// first literal alone is open, which must hold there.
func (q *search) learn(failed int) {
	clause := q.lesson(failed)
	q.order.Decay()
	if len(clause) == 1 {
		q.fall(0)
		q.hold(clause[0], none)
		return
	}
	// What failed last is watched, since of those that fail it is the first one that is opened.
	last := 1
	for i := 2; i < len(clause); i++ {
		if q.variable(clause[i]).level > q.variable(clause[last]).level {
			last = i
		}
	}
	clause[1], clause[last] = clause[last], clause[1]
	q.fall(q.variable(clause[1]).level)
	q.hold(clause[0], q.keep(clause))
}

// lesson is such a clause: what made the failing one fail is gone into, the newest first, till it hangs
// on one literal alone of those that came with what was tried last.
func (q *search) lesson(failed int) []int {
	clause := []int{0}
	newest := 0
	at := len(q.trail)
	for n := failed; clause[0] == 0; n = q.variable(q.trail[at]).reason {
		for _, l := range q.clauses[n] {
			if !q.mark(l) {
				continue
			}
			q.order.Bump(number(l))
			if q.variable(l).level == len(q.levels) {
				newest++
			} else {
				clause = append(clause, l)
			}
		}
		at = q.unmark(at)
		newest--
		if newest == 0 {
			clause[0] = -q.trail[at]
		}
	}
	for _, l := range clause {
		q.variable(l).marked = false
	}
	return clause
}

// core is an assumption that fails, and those that make it fail: nothing but assumptions is tried yet.
func (q *search) core(l int, assume []int) []int {
	guilty := []int{l}
	q.mark(l)
	for at := q.unmark(len(q.trail)); at >= 0; at = q.unmark(at) {
		m := q.trail[at]
		n := q.variable(m).reason
		if n == none {
			guilty = append(guilty, m)
			continue
		}
		for _, o := range q.clauses[n] {
			q.mark(o)
		}
	}
	slices.Sort(guilty)
	return slices.DeleteFunc(slices.Clone(assume), func(a int) bool { return !has(guilty, a) })
}

// mark marks a literal that fails, if the clauses alone don't make it fail; it tells whether that is new.
func (q *search) mark(l int) bool {
	q.left--
	v := q.variable(l)
	if v.marked || v.level == 0 || q.value(l) >= 0 {
		return false
	}
	v.marked = true
	return true
}

// unmark takes the mark off the last literal that has one, of those that stand ahead of a place on the
// trail; it tells where that one stands, or -1.
func (q *search) unmark(at int) int {
	for at--; at >= 0; at-- {
		v := q.variable(q.trail[at])
		if v.marked {
			v.marked = false
			return at
		}
	}
	return -1
}
