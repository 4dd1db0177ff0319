package sat_test

import (
	"math/rand/v2"
	"testing"

	"elenchus/api"
)

// act is any call; most is how many variables there may be.
func (p pair) act(r *rand.Rand, most int) {
	p.t.Helper()
	n := p.o.n
	switch kind := r.IntN(10); {
	case n == 0 || kind == 0 && n < most:
		p.grow()
	case kind < 6:
		p.add(anyLiterals(r, n, 1+r.IntN(4)))
	case kind == 6:
		p.solve(anyLiterals(r, n, r.IntN(5)), r.IntN(4))
	default:
		list := anyLiterals(r, n, r.IntN(5))
		a := p.enough(list...)
		if b := p.anew().enough(list...); a.kind != b.kind {
			p.t.Fatalf("Solve of %v: %d, but %d of a solver that is new", list, a.kind, b.kind)
		}
	}
}

// Rows of Grow, Add and Solve in all orders, on one solver: each answer is right, and of a kind with that
// of a solver that was made anew (P13.3).
func TestAnyRowsOfCalls(t *testing.T) {
	r := chance()
	for range 2500 {
		p := newPair(t, r.IntN(4))
		for range r.IntN(60) {
			p.act(r, 9)
		}
		p.enough()
	}
}

// Each row of some calls.
func TestAllShortRows(t *testing.T) {
	const kinds, length = 9, 5
	rows := 1
	for range length {
		rows *= kinds
	}
	for row := range rows {
		p := newPair(t, 2)
		for rest := row; rest > 0; rest /= kinds {
			switch rest % kinds {
			case 1:
				p.add([]int{1, 2})
			case 2:
				p.add([]int{-1, 2})
			case 3:
				p.add([]int{-2})
			case 4:
				p.enough()
			case 5:
				p.enough(-2, 1)
			case 6:
				p.grow()
				p.add([]int{-p.o.n, 1}, []int{p.o.n, -2})
			case 7:
				p.enough(-1, p.o.n)
			case 8:
				p.solve([]int{2}, 0)
			}
		}
		p.enough()
		p.enough(1, 2, -1)
	}
}

// What was learned under assumptions holds without them, too: the clauses that are learned don't rule
// out what other assumptions ask for.
func TestOtherAssumptionsInARow(t *testing.T) {
	r := chance()
	for range 60 {
		n := 6 + r.IntN(4)
		p := newPair(t, n)
		for range 3 * n {
			p.add(anyLiterals(r, n, 3))
		}
		for range 40 {
			p.enough(anyLiterals(r, n, r.IntN(n+1))...)
		}
	}
}

// Clauses come one by one, each behind an answer, by which all but one of the truths that are left go.
func TestTruthsGoOneByOne(t *testing.T) {
	for n := 1; n <= 7; n++ {
		p := newPair(t, n)
		for count := 0; ; count++ {
			a := p.enough()
			if a.kind == api.Unsat {
				if count != 1<<n {
					t.Fatalf("of %d variables %d truths were told", n, count)
				}
				break
			}
			clause := []int{}
			for i, is := range a.truths {
				if is {
					clause = append(clause, -i-1)
				} else {
					clause = append(clause, i+1)
				}
			}
			p.isSat()
			p.add(clause)
		}
		p.isUnsat([]int{1, -1})
	}
}

// The same calls have the same answers, whatever other solvers are told meanwhile (R7).
func TestSolversDoNotDependOnOneAnother(t *testing.T) {
	for round := range uint64(150) {
		one, two := newPair(t, 3), newPair(t, 3)
		a, b := rand.New(rand.NewPCG(round, 1)), rand.New(rand.NewPCG(round, 1))
		away := newPair(t, 3)
		c := rand.New(rand.NewPCG(round, 2))
		for range 25 {
			one.act(a, 7)
			away.act(c, 7)
		}
		for range 25 {
			two.act(b, 7)
		}
		list := anyLiterals(a, 3, 3)
		if x, y := one.enough(list...), two.enough(list...); !isSame(x, y) {
			t.Fatalf("Solve of %v: %v, and %v", list, x, y)
		}
	}
}
