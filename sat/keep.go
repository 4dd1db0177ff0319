package sat

import (
	"slices"
	"strconv"
)

// add takes a clause in, without the literals that fail, if it doesn't hold: no literal is tried now,
// so that what holds does so by the clauses alone.
func (s *Solver) add(clause []int) {
	own := slices.Clone(clause)
	slices.Sort(own)
	own = slices.Compact(own)
	var open []int
	for _, l := range own {
		switch {
		case s.value(l) > 0 || l > 0 && has(own, -l):
			return
		case s.value(l) == 0:
			open = append(open, l)
		}
	}
	switch len(open) {
	case 0:
		s.clash = true
	case 1:
		s.hold(open[0], none)
	default:
		s.keepOnce(open)
	}
}

// keepOnce keeps a clause, unless it was added already: so few variables have few clauses, however
// often they are added, and going through them doesn't use up the fuel.
func (s *Solver) keepOnce(clause []int) {
	text := textOf(clause)
	if _, ok := s.known[text]; ok {
		return
	}
	if s.known == nil {
		s.known = map[string]struct{}{}
	}
	s.known[text] = struct{}{}
	s.keep(clause)
}

// keep keeps a clause of two literals at least, and tells its number.
func (s *Solver) keep(clause []int) int {
	n := len(s.clauses)
	s.clauses = append(s.clauses, clause)
	s.watch(clause[0], n)
	s.watch(clause[1], n)
	return n
}

func (s *Solver) watch(l, n int) {
	at := place(l)
	s.watchers[at] = append(s.watchers[at], n)
}

func place(l int) int {
	if l < 0 {
		return -2*l - 1
	}
	return 2*l - 2
}

func has(sorted []int, l int) bool {
	_, ok := slices.BinarySearch(sorted, l)
	return ok
}

func textOf(clause []int) string {
	var out []byte
	for _, l := range clause {
		out = append(strconv.AppendInt(out, int64(l), 10), ',')
	}
	return string(out)
}
