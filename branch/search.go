package branch

import (
	"slices"

	"elenchus/api"
	"elenchus/ratio"
	"elenchus/tableau"
	"elenchus/whole"
)

// mostBranches is how often it may be branched within one another.
const mostBranches = 64

// search is a problem, and the branches within which it is asked now: their bounds stand behind its own.
type search struct {
	vars   int
	rows   []api.Linear
	alone  map[int]int // by variable: the number of a row that is that variable once
	bounds []api.Bound
	given  int // how many bounds are the problem's own
	fuel   int // what is left of it
}

// answer is what is told beside the fuel. Of one that is Unknown nothing is.
type answer struct {
	kind    int
	numbers []api.Int
	core    []int
}

// begin is a search within no branch.
func begin(vars int, rows []api.Linear, bounds []api.Bound, fuel int) *search {
	s := &search{vars: vars, alone: map[int]int{}, given: len(bounds), fuel: fuel}
	s.rows, s.bounds = tight(rows, bounds)
	one := whole.Of(1)
	for i, l := range s.rows {
		if len(l.Parts) == 1 && whole.Cmp(l.Parts[0].Coef, one) == 0 {
			s.alone[l.Parts[0].Term] = i
		}
	}
	return s
}

// solve is the answer within the branches of now.
func (s *search) solve() answer {
	if s.fuel == 0 {
		return answer{}
	}
	kind, values, core, used, _ := tableau.Solve(s.vars, s.rows, s.bounds, s.fuel-1)
	s.fuel -= 1 + used
	if kind != api.Sat {
		return answer{kind: kind, core: core}
	}
	isBroken := func(a api.Rat) bool { return !ratio.Is(a) }
	if v := slices.IndexFunc(values, isBroken); v >= 0 {
		return s.branch(v, values[v])
	}
	return answer{kind: api.Sat, numbers: numbers(values)}
}

// branch asks on both sides of a variable's fraction, on the nearer one first. Each whole number is on one
// of them: what is Unsat on both is so by all bounds by which it is so on either, but for the sides' own.
func (s *search) branch(v int, a api.Rat) answer {
	if len(s.bounds)-s.given == mostBranches {
		return answer{}
	}
	sides := []func(int, api.Rat) answer{s.atMost, s.atLeast}
	if isNearerAbove(a) {
		slices.Reverse(sides)
	}
	own := len(s.bounds)
	var core []int
	for _, side := range sides {
		got := side(v, a)
		i, found := slices.BinarySearch(got.core, own)
		if !found {
			return got // it isn't Unsat, or is so on whichever side
		}
		core = append(core, slices.Delete(got.core, i, i+1)...)
	}
	slices.Sort(core)
	return answer{kind: api.Unsat, core: slices.Compact(core)}
}

func (s *search) atMost(v int, a api.Rat) answer {
	return s.within(api.Bound{Row: s.row(v), Upper: true, Val: ratio.Floor(a)})
}

func (s *search) atLeast(v int, a api.Rat) answer {
	return s.within(api.Bound{Row: s.row(v), Val: ratio.Ceil(a)})
}

// within is the answer with one bound more, which is taken back.
func (s *search) within(b api.Bound) answer {
	s.bounds = append(s.bounds, b)
	got := s.solve()
	s.bounds = s.bounds[:len(s.bounds)-1]
	return got
}

// row is the number of a row that is a variable once. Where there is none yet, one more is laid.
func (s *search) row(v int) int {
	if _, ok := s.alone[v]; !ok {
		s.alone[v] = len(s.rows)
		s.rows = append(s.rows, api.Linear{Parts: []api.Part{{Coef: whole.Of(1), Term: v}}})
	}
	return s.alone[v]
}

// isNearerAbove asks whether a fraction is nearer to the whole number above it than to the one below.
func isNearerAbove(a api.Rat) bool {
	below, above := ratio.Of(ratio.Floor(a)), ratio.Of(ratio.Ceil(a))
	return ratio.Cmp(ratio.Sub(above, a), ratio.Sub(a, below)) < 0
}

// numbers are fractions that are whole, as numbers.
func numbers(values []api.Rat) []api.Int {
	out := make([]api.Int, 0, len(values))
	for _, a := range values {
		out = append(out, ratio.Floor(a))
	}
	return out
}
