package tableau

import (
	"slices"

	"elenchus/api"
	"elenchus/ratio"
	"elenchus/whole"
)

// tableau is a problem while it is searched. Variables have their numbers, and the sum of the row number
// r has the number vars + r. Each of these is a column, or told by columns.
type tableau struct {
	vars   int
	sums   []sum    // by row
	free   sum      // stands for all variables: nothing keeps one from moving
	solved []solved // variables that aren't columns any more, in the order in which they were exchanged
	spare  row
	used   int
}

// solved is a variable, and the row that told it when it was exchanged. It holds ever after, and is no
// more needed till all values are asked: a variable has no bounds, and so is never exchanged again.
type solved struct {
	variable int
	row      row
}

// lay makes a tableau in which all variables are columns, and 0. A row without bounds is left out: it asks for nothing.
func lay(vars int, rows []api.Linear, bounds []api.Bound) *tableau {
	t := &tableau{vars: vars, sums: make([]sum, len(rows)), free: unbound(), spare: row{}}
	for i := range t.sums {
		t.sums[i] = unbound()
	}
	for i, b := range bounds {
		s := &t.sums[b.Row]
		if b.Upper {
			s.most.tighten(i, ratio.Of(b.Val), -1)
		} else {
			s.least.tighten(i, ratio.Of(b.Val), 1)
		}
	}
	for i := range t.sums {
		s := &t.sums[i]
		if s.least.bound == none && s.most.bound == none {
			continue
		}
		s.row = row{vars + i: whole.Of(-1)}
		for _, p := range rows[i].Parts {
			s.row[p.Term] = p.Coef
		}
		s.put(ratio.Of(api.Int{}))
	}
	return t
}

// answer is Solve's answer, but for the fractions.
func (t *tableau) answer(fuel int) (int, []int) {
	for i := range t.sums {
		least, most := t.sums[i].least, t.sums[i].most
		if least.bound != none && most.bound != none && ratio.Cmp(least.val, most.val) > 0 {
			return api.Unsat, rising(least.bound, most.bound)
		}
	}
	return t.search(fuel)
}

// search exchanges sums that break a bound for columns that may move, by Bland's rule: of each the one
// with the least number. So no choice comes again, and the search comes to an end.
func (t *tableau) search(fuel int) (int, []int) {
search:
	for {
		n := t.broken()
		if n == none {
			return api.Sat, nil
		}
		s := t.sum(n)
		goal, side := s.broken()
		core := []int{goal.bound}
		for _, c := range s.row.columns(n) {
			stop := t.mover(c, side*s.row.side(n, c))
			bound := stop()
			if bound != none {
				core = append(core, bound)
				continue
			}
			if t.used == fuel {
				return api.Unknown, nil
			}
			t.exchange(n, c, goal.val)
			continue search
		}
		return api.Unsat, rising(core...)
	}
}

// broken is the least number of a sum that breaks a bound, or none.
func (t *tableau) broken() int {
	breaks := func(s sum) bool { return s.low < 0 || s.high > 0 }
	i := slices.IndexFunc(t.sums, breaks)
	if i < 0 {
		return none
	}
	return t.vars + i
}

// sum is the one that has a number.
func (t *tableau) sum(n int) *sum {
	if n < t.vars {
		return &t.free
	}
	return &t.sums[n-t.vars]
}

// mover asks a column which bound keeps it from moving to a side.
func (t *tableau) mover(column, side int) func() int {
	if side > 0 {
		return t.sum(column).rise
	}
	return t.sum(column).fall
}

// exchange makes a column of the sum n, with a value, and makes its row tell another column instead, which
// so far stood for itself.
func (t *tableau) exchange(n, column int, value api.Rat) {
	s := t.sum(n)
	r := s.row
	step, _ := ratio.Div(ratio.Sub(value, s.value), r.slope(n, column))
	s.row = nil
	s.put(value)
	for i := range t.sums {
		t.follow(t.vars+i, column, step, r)
	}
	t.used++
	if column < t.vars {
		t.solved = append(t.solved, solved{column, r})
		return
	}
	s = t.sum(column)
	s.row = r
	s.put(ratio.Add(s.value, step))
}

// follow moves the sum n as a column moves by a step, and rids its row of that column by another row.
func (t *tableau) follow(n, column int, step api.Rat, by row) {
	s := t.sum(n)
	if _, ok := s.row[column]; !ok {
		return
	}
	s.put(ratio.Add(s.value, ratio.Mul(step, s.row.slope(n, column))))
	common := whole.Gcd(s.row[column], by[column])
	clear(t.spare)
	t.spare.take(s.row, quotient(by[column], common))
	t.spare.take(by, whole.Neg(quotient(s.row[column], common)))
	s.row.become(t.spare)
}

// fractions are the variables' values. What a row told is told by variables that were exchanged later, or never.
func (t *tableau) fractions() []api.Rat {
	out := make([]api.Rat, t.vars)
	for v := range out {
		out[v] = ratio.Of(api.Int{})
	}
	for _, s := range slices.Backward(t.solved) {
		for c := range s.row {
			if c != s.variable {
				out[s.variable] = ratio.Add(out[s.variable], ratio.Mul(t.value(c, out), s.row.slope(s.variable, c)))
			}
		}
	}
	return out
}

// value is a number's: a sum's own, or a variable's among these.
func (t *tableau) value(n int, variables []api.Rat) api.Rat {
	if n < t.vars {
		return variables[n]
	}
	return t.sums[n-t.vars].value
}

// rising are numbers in their order.
func rising(list ...int) []int {
	slices.Sort(list)
	return list
}
