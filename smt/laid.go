package smt

import (
	"slices"

	"elenchus/api"
	"elenchus/clauses"
	"elenchus/linear"
	"elenchus/sat"
)

// partsOfOne is how many parts rows may have that are asked for a fuel of 1: so the time that a fuel takes
// doesn't hang much on how many there are.
const partsOfOne = 64

// search is conditions as clauses, and what is known of them.
type search struct {
	rows   api.Terms
	sums   []api.Linear // by term
	needed []int        // terms on which the conditions hang, rising
	lits   []int        // by term: the literal of one of Bool that is needed, else 0
	coder  *clauses.Coder
	solver *sat.Solver
	coded  api.Coded // what the solver has of what the coder made
	left   int       // fuel
	passed int       // how many truths were passed over
}

// lay codes all that terms hang on. It tells their stand-ins, too.
func lay(r api.Terms, terms []int, fuel int) (*search, []int) {
	r, terms = folded(r, terms)
	s := &search{rows: r, needed: needed(r.Terms, terms), solver: sat.New(0), left: fuel}
	s.sums, _ = linear.All(r)
	s.coder, _ = clauses.New(r)
	s.lits = literals(s.needed, len(r.Terms), s.coder.Lit)
	s.hand()
	return s, terms
}

// needed are some terms, and all that are parts, or parts of parts, of them: rising.
func needed(terms []api.Term, some []int) []int {
	is := make([]bool, len(terms))
	for _, t := range some {
		is[t] = true
	}
	var out []int
	for t := len(terms) - 1; t >= 0; t-- {
		if !is[t] {
			continue
		}
		out = append(out, t)
		for _, part := range terms[t].Args {
			is[part] = true
		}
	}
	slices.Reverse(out)
	return out
}

// literals are, by term, what a coder's call answers of some terms: of those of Whole, and of all others, 0.
func literals(some []int, count int, lit func(int) (int, api.Errno)) []int {
	out := make([]int, count)
	for _, t := range some {
		out[t], _ = lit(t)
	}
	return out
}

// isOfWhole asks whether a term that is needed is of Whole.
func (s *search) isOfWhole(t int) bool {
	return s.lits[t] == 0
}

// assumed are the literals of terms, each once, and which assumed term has each of them first.
func (s *search) assumed(terms, assume []int) ([]int, map[int]int) {
	var out []int
	first := map[int]int{}
	for i, t := range terms {
		l := s.lits[t]
		if _, ok := first[l]; !ok {
			first[l] = assume[i]
			out = append(out, l)
		}
	}
	return out, first
}

// hand hands on to the solver what the coder made since the last time.
func (s *search) hand() {
	had := s.coded
	s.coded = s.coder.Coded()
	for range s.coded.Vars - had.Vars {
		s.solver.Grow()
	}
	each(s.coded.Clauses[len(had.Clauses):], s.solver.Add)
}

// isAtom asks whether a variable means an atom.
func isAtom(m api.Mean) bool {
	return m.Term < 0 && m.Atom.Row >= 0
}

// learn gives the solver one clause more.
func (s *search) learn(clause ...int) {
	s.solver.Add(clause)
}

// each hands on clauses, one behind the other.
func each(clauses [][]int, add func([]int) api.Errno) {
	for _, clause := range clauses {
		add(clause)
	}
}

// price is how much of the fuel is 1 of layer 15's.
func (s *search) price() int {
	parts := 0
	for _, l := range s.coded.Rows {
		parts += len(l.Parts)
	}
	return 1 + parts/partsOfOne
}
