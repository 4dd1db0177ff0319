package sat

import "elenchus/api"

// stepsOfOne is how many steps a fuel of 1 is. A step is a literal that is looked at or tried: so the
// time that a fuel takes doesn't hang on how many clauses there are.
const stepsOfOne = 256

// search is a solver that looks for truths.
type search struct {
	*Solver
	left int // steps; below 0, if the fuel doesn't suffice
}

func (q *search) isSpent() bool {
	return q.left < 0
}

// answer is Solve's answer, if the fuel suffices. That the clauses clash with assumptions doesn't tell
// whether they do so alone, and then no assumption may be told: so that is asked, too.
func (q *search) answer(assume []int) (int, []bool, []int) {
	kind, core := q.run(once(assume))
	truths := q.truths(kind)
	q.fall(0)
	if len(core) == 0 {
		return kind, truths, nil
	}
	alone, _ := q.run(nil)
	q.fall(0)
	if alone == api.Unsat {
		core = nil
	}
	return kind, nil, core
}

// run goes on till all variables have values, an assumption fails, the clauses clash alone, or the fuel ends.
func (q *search) run(assume []int) (int, []int) {
	for {
		n := q.follow()
		if n != none && len(q.levels) == 0 {
			q.clash = true
			return api.Unsat, nil
		}
		if q.isSpent() {
			return api.Unknown, nil
		}
		if n != none {
			q.learn(n)
			continue
		}
		l := q.next(assume)
		switch {
		case l == 0:
			return api.Sat, nil
		case q.value(l) < 0:
			return api.Unsat, q.core(l, assume)
		}
		q.rise()
		q.hold(l, none)
	}
}

// next is the literal that is tried next, or 0, if there is none: the first assumption that doesn't
// hold, else an open variable with its last value, by which most clauses may hold already.
func (q *search) next(assume []int) int {
	// Each assumption has a level, though it holds already, so that levels tell which one comes next.
	for len(q.levels) < len(assume) {
		l := assume[len(q.levels)]
		if q.value(l) <= 0 {
			return l
		}
		q.left--
		q.rise()
	}
	for {
		v, ok := q.order.Pop()
		switch {
		case !ok:
			return 0
		case q.value(v) != 0:
			continue
		case q.variable(v).last > 0:
			return v
		}
		return -v
	}
}

func (q *search) truths(kind int) []bool {
	if kind != api.Sat {
		return nil
	}
	out := make([]bool, len(q.vars))
	for i, v := range q.vars {
		out[i] = v.value > 0
	}
	return out
}

// once is a list, each number where it stands first.
func once(list []int) []int {
	var out []int
	seen := map[int]struct{}{}
	for _, l := range list {
		if _, ok := seen[l]; !ok {
			seen[l] = struct{}{}
			out = append(out, l)
		}
	}
	return out
}
