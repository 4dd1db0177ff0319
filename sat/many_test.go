package sat_test

import (
	"math/rand/v2"
	"slices"
	"testing"

	"elenchus/api"
)

// search is another way to find out whether clauses can hold, for more variables than all truths of which
// could be tried: a value is tried, and its opposite, and of clauses that have one literal left it holds.
type search struct {
	clauses [][]int
	values  []int // by variable less 1: 1, -1, or 0
}

func newSearch(n int, clauses [][]int) *search {
	return &search{clauses: clauses, values: make([]int, n)}
}

func (s *search) value(l int) int {
	if l < 0 {
		return -s.values[-l-1]
	}
	return s.values[l-1]
}

func (s *search) set(l int) {
	s.values[max(l, -l)-1] = 1
	if l < 0 {
		s.values[-l-1] = -1
	}
}

// state is what of a clause is left: whether it holds, how many of its literals are open, and one of them.
func (s *search) state(clause []int) (holds bool, open, one int) {
	for _, l := range clause {
		switch s.value(l) {
		case 1:
			return true, 0, 0
		case 0:
			open++
			one = l
		}
	}
	return false, open, one
}

// spread lets hold what must; it tells whether no clause fails then, and a literal of a clause that may, or 0.
func (s *search) spread() (bool, int) {
	for {
		found, next := false, 0
		for _, c := range s.clauses {
			holds, open, one := s.state(c)
			switch {
			case holds:
			case open == 0:
				return false, 0
			case open == 1:
				s.set(one)
				found = true
			default:
				next = one
			}
		}
		if !found {
			return true, next
		}
	}
}

func (s *search) can() bool {
	ok, next := s.spread()
	if !ok || next == 0 {
		return ok
	}
	was := slices.Clone(s.values)
	for _, l := range []int{next, -next} {
		s.set(l)
		if s.can() {
			return true
		}
		copy(s.values, was)
	}
	return false
}

// canHold tells whether clauses, and all of a list, can hold.
func canHold(n int, clauses [][]int, list []int) bool {
	s := newSearch(n, clauses)
	for _, l := range list {
		if s.value(l) < 0 {
			return false
		}
		s.set(l)
	}
	return s.can()
}

// right holds an answer with all fuel against the other search.
func (p pair) right(assume []int) answer {
	p.t.Helper()
	a := p.asked(assume, api.MaxFuel)
	switch {
	case a.kind == api.Unknown:
		p.t.Fatalf("Solve of %v: Unknown, of %d variables", assume, p.o.n)
	case a.kind == api.Sat:
	case canHold(p.o.n, p.o.clauses, a.core):
		p.t.Fatalf("Unsat of %v by %v, which don't clash with the clauses %v", assume, a.core, p.o.clauses)
	case len(a.core) > 0 && !canHold(p.o.n, p.o.clauses, nil):
		p.t.Fatalf("Unsat of %v by %v, but the clauses %v clash alone", assume, a.core, p.o.clauses)
	}
	return a
}

// anyOf are clauses of three literals of different variables.
func anyOf(r *rand.Rand, n, count int) [][]int {
	var out [][]int
	for range count {
		list := r.Perm(n)[:3]
		for i := range list {
			list[i]++
			if r.IntN(2) == 0 {
				list[i] = -list[i]
			}
		}
		out = append(out, list)
	}
	return out
}

// So many clauses of three literals that they just can, or just can't, hold.
func TestClausesOfManyVariables(t *testing.T) {
	r := chance()
	kinds := [3]int{}
	for range 100 {
		n := 12 + r.IntN(40)
		p := newPair(t, n, anyOf(r, n, n*43/10+r.IntN(5)-2)...)
		for range 4 {
			kinds[p.right(anyLiterals(r, n, r.IntN(6))).kind]++
		}
		kinds[p.right(nil).kind]++
	}
	if kinds[api.Sat] < 50 || kinds[api.Unsat] < 50 {
		t.Fatalf("answers of each kind: %v", kinds)
	}
}

// Calls in a row on one solver, of many variables.
func TestManyVariablesInARow(t *testing.T) {
	r := chance()
	for range 15 {
		n := 20 + r.IntN(20)
		p := newPair(t, n)
		for p.right(nil).kind == api.Sat {
			p.add(anyOf(r, n, 1+r.IntN(n))...)
			p.right(anyLiterals(r, n, r.IntN(5)))
			p.asked(anyLiterals(r, n, 2), r.IntN(3))
			p.grow()
			n++
			p.add([]int{-n, anyLiteral(r, n-1)}, []int{n, anyLiteral(r, n-1), anyLiteral(r, n-1)})
		}
		p.right(anyLiterals(r, n, 3))
	}
}

// Clauses that hold by truths that were chosen first.
func TestClausesThatCanHold(t *testing.T) {
	r := chance()
	for range 20 {
		n := 100 + r.IntN(200)
		values := anyLiterals(r, 1, n)
		p := newPair(t, n)
		for _, c := range anyOf(r, n, 4*n) {
			if slices.ContainsFunc(c, func(l int) bool { return values[max(l, -l)-1] == max(min(l, 1), -1) }) {
				p.add(c)
			}
		}
		if a := p.asked(nil, api.MaxFuel); a.kind != api.Sat {
			t.Fatalf("%d clauses of %d variables: %d", len(p.o.clauses), n, a.kind)
		}
	}
}

// More pigeons than places clash, whatever is assumed; as many don't.
func TestPigeons(t *testing.T) {
	for places := 1; places <= 6; places++ {
		n, clauses := pigeons(places+1, places)
		p := newPair(t, n, clauses...)
		for _, list := range [][]int{{1}, {n, -1}, nil, {-1, 1}} {
			if a := p.asked(list, api.MaxFuel); a.kind != api.Unsat || len(a.core) != 0 {
				t.Fatalf("%d places: %v", places, a)
			}
		}
		n, clauses = pigeons(places, places)
		p = newPair(t, n, clauses...)
		if a := p.asked(nil, api.MaxFuel); a.kind != api.Sat {
			t.Fatalf("%d places for as many: %v", places, a)
		}
		if a := p.asked([]int{1, n}, api.MaxFuel); a.kind != api.Sat {
			t.Fatalf("%d places for as many, two chosen: %v", places, a)
		}
	}
}

// Along a row each variable is the last one, or its opposite: the ends are tied, either way.
func TestRowsOfOppositeTies(t *testing.T) {
	r := chance()
	for range 50 {
		n := 2 + r.IntN(300)
		p := newPair(t, n)
		same := true
		for v := 2; v <= n; v++ {
			if r.IntN(2) == 0 {
				p.add([]int{-v + 1, v}, []int{v - 1, -v})
			} else {
				p.add([]int{-v + 1, -v}, []int{v - 1, v})
				same = !same
			}
		}
		last := n
		if !same {
			last = -n
		}
		if a := p.asked([]int{1, -last}, api.MaxFuel); a.kind != api.Unsat || len(a.core) != 2 {
			t.Fatalf("of %d: %v", n, a)
		}
		if a := p.asked([]int{-1, last}, api.MaxFuel); a.kind != api.Unsat || len(a.core) != 2 {
			t.Fatalf("of %d: %v", n, a)
		}
		for _, list := range [][]int{nil, {1}, {-1}, {1, last}, {-last, -1}} {
			if a := p.asked(list, api.MaxFuel); a.kind != api.Sat {
				t.Fatalf("of %d: Solve of %v: %v", n, list, a)
			}
		}
	}
}
