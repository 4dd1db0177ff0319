package smt

import (
	"elenchus/api"
	"elenchus/branch"
	"elenchus/whole"
)

// mostPassed is how often truths are passed over for which layer 15 goes too deep: there may be a model by others.
const mostPassed = 8

// answer is what is told beside the fuel, its core as literals. Of one that is Unknown nothing is.
type answer struct {
	kind  int
	model api.Model
	core  []int
}

// answer asks whether what is assumed can hold. That it can't doesn't tell whether the conditions clash
// without it, and then nothing of it may be told: so that is asked, too, and must be known.
func (s *search) answer(assumed []int) answer {
	a := s.run(assumed)
	if len(a.core) == 0 {
		return a
	}
	if alone := s.run(nil); alone.kind != api.Sat {
		return alone
	}
	return a
}

// run goes on till truths have a model, none are left, or the fuel ends. The solver learns why truths have
// none, so that it doesn't tell them again.
func (s *search) run(assumed []int) answer {
	for s.passed <= mostPassed {
		kind, truths, core, used, _ := s.solver.Solve(assumed, s.left)
		s.left -= used
		switch {
		case kind == api.Unsat && s.passed == 0:
			return answer{kind: kind, core: core}
		case kind != api.Sat:
			return answer{} // those that were passed over may have a model
		}
		numbers, ok := s.numbers(truths)
		if !ok {
			continue
		}
		if m, ok := s.model(truths, numbers); ok {
			return answer{kind: kind, model: m}
		}
	}
	return answer{}
}

// numbers are such, by term, that just those atoms hold that are to. Where layer 15 can't tell whether there
// are some, these truths are passed over.
func (s *search) numbers(truths []bool) ([]api.Int, bool) {
	bounds, lits := s.bounds(truths)
	price := s.price()
	kind, numbers, core, used, _ := branch.Solve(len(s.rows.Terms), s.coded.Rows, bounds, s.left/price)
	s.left -= used * price
	switch kind {
	case api.Sat:
		return numbers, true
	case api.Unsat:
		s.learn(opposites(lits, core)...)
	default:
		s.passed++
		s.learn(opposites(lits, all(lits))...)
	}
	return nil, false
}

// bounds are what atoms say of rows by these truths, and the literals by which they do.
func (s *search) bounds(truths []bool) ([]api.Bound, []int) {
	var bounds []api.Bound
	var lits []int
	for i, m := range s.coded.Means {
		if !isAtom(m) {
			continue
		}
		b, l := api.Bound{Row: m.Atom.Row, Upper: true, Val: m.Atom.Val}, i+1
		if !truths[i] {
			b.Upper, b.Val, l = false, whole.Add(b.Val, whole.Of(1)), -l
		}
		bounds, lits = append(bounds, b), append(lits, l)
	}
	return bounds, lits
}

// opposites are those of the literals at some places.
func opposites(lits, places []int) []int {
	var out []int
	for _, i := range places {
		out = append(out, -lits[i])
	}
	return out
}

// all are the places of a list.
func all(list []int) []int {
	out := make([]int, len(list))
	for i := range out {
		out[i] = i
	}
	return out
}

// holds asks whether a literal does by truths.
func holds(l int, truths []bool) bool {
	if l < 0 {
		return !truths[-l-1]
	}
	return truths[l-1]
}
