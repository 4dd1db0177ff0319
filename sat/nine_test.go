package sat_test

import (
	"math/rand/v2"
	"slices"
	"testing"

	"elenchus/api"
)

// All kinds of clauses over at most 9 variables, held against all truths (P13.2).
func TestAnyClausesOfNine(t *testing.T) {
	r := chance()
	for round := range 4000 {
		n := 1 + round%9
		p := newPair(t, n)
		longest := 1 + r.IntN(n+1)
		for range r.IntN(1 + n*longest*(1+r.IntN(3))) {
			p.add(anyLiterals(r, n, 1+r.IntN(longest)))
		}
		for range 5 {
			p.enough(anyLiterals(r, n, r.IntN(n+2))...)
		}
		p.enough()
	}
}

// Clauses of one length, so many that they just can, or just can't, hold.
func TestClausesAtTheEdge(t *testing.T) {
	r := chance()
	for length := 2; length <= 5; length++ {
		for range 60 {
			n := max(length, 6) + r.IntN(4)
			n = min(n, 9)
			p := newPair(t, n)
			for p.o.can(nil) {
				list := r.Perm(n)[:length]
				for i := range list {
					list[i]++
					if r.IntN(2) == 0 {
						list[i] = -list[i]
					}
				}
				before := p.enough()
				p.add(list)
				if before.kind != api.Sat {
					t.Fatal("no truths")
				}
			}
			p.isUnsat(nil)
			p.isUnsat(anyLiterals(r, n, 3))
			p.anew().isUnsat(anyLiterals(r, n, 3))
		}
	}
}

// Each truths but some are ruled out, each by a clause of all variables.
func TestAllTruthsButSome(t *testing.T) {
	r := chance()
	for n := 1; n <= 9; n++ {
		for _, but := range []int{0, 1, 2, 5} {
			clauses := slices.Clone(allClauses(n)[n])
			shuffle(r, clauses)
			but = min(but, len(clauses))
			p := newPair(t, n, clauses[but:]...)
			p.withAssumptions(r)
			p.add(clauses[:but]...)
			p.isUnsat(nil)
			p.withAssumptions(r)
		}
	}
}

func (p pair) withAssumptions(r *rand.Rand) {
	p.t.Helper()
	for range 8 {
		p.enough(anyLiterals(r, p.o.n, r.IntN(6))...)
	}
	if q := p.anew(); q.enough().kind != p.enough().kind {
		p.t.Fatalf("another answer of a solver that is new: of %d clauses", len(p.o.clauses))
	}
}

// All clauses of some lengths, and any of them: of nine variables there are 19683 in all. What they take
// is far from all fuel.
func TestAllClausesOfSomeLengths(t *testing.T) {
	r := chance()
	all := allClauses(9)
	for from := 1; from <= 9; from++ {
		for to := from; to <= 9; to += 2 {
			clauses := slices.Concat(all[from : to+1]...)
			for _, list := range [][]int{nil, {1}, {-9, 5, 3}} {
				p := newPair(t, 9, clauses...)
				if a := p.asked(list, api.MaxFuel); a.kind != api.Unsat || len(a.core) != 0 || a.used > api.MaxFuel/100 {
					t.Fatalf("all of lengths %d to %d: %v", from, to, a)
				}
			}
			shuffle(r, clauses)
			p := newPair(t, 9, clauses[:r.IntN(len(clauses))]...)
			if a := p.enough(anyLiterals(r, 9, r.IntN(3))...); a.used > api.MaxFuel/100 {
				t.Fatalf("some of lengths %d to %d: %v", from, to, a)
			}
		}
	}
}

// How often clauses are added isn't to be seen in the fuel.
func TestClausesOften(t *testing.T) {
	r := chance()
	_, few := pigeons(3, 2)
	for _, clauses := range [][][]int{few, allClauses(9)[9], allClauses(9)[2][:30], anyOf(r, 9, 40)} {
		p, o := newPair(t, 9, clauses...), newPair(t, 9, clauses...)
		for range 200000 / len(clauses) {
			for _, c := range clauses {
				c = slices.Clone(c)
				shuffle(r, c)
				if e := p.s.Add(append(c, c[0])); e != api.OK {
					t.Fatal(e)
				}
			}
		}
		for range 5 {
			list := anyLiterals(r, 9, r.IntN(4))
			if a, b := p.enough(list...), o.enough(list...); !isSame(a, b) {
				t.Fatalf("Solve of %v, of clauses that were added often: %v, not %v", list, a, b)
			}
		}
	}
}

// Nor is how often literals are assumed.
func TestAssumedOften(t *testing.T) {
	_, clauses := pigeons(3, 2)
	p := newPair(t, 9, clauses[1:]...)
	list := slices.Repeat([]int{7, -8, 9}, 400000)
	if a := p.asked(list, 1); a.kind != api.Sat {
		t.Fatalf("three literals assumed often, fuel 1: %d", a.kind)
	}
	if a := p.asked(append(list, -7), 2); a.kind != api.Unsat || !slices.Equal(a.core, []int{7, -7}) {
		t.Fatalf("three literals assumed often, and -7: %v", a)
	}
}

// Whatever was asked of nine variables ahead, it is never Unknown with all fuel.
func TestNeverUnknownBehindMuch(t *testing.T) {
	r := chance()
	p := newPair(t, 9)
	for range 35 {
		list := r.Perm(9)[:3+r.IntN(3)]
		for i := range list {
			list[i]++
			if r.IntN(2) == 0 {
				list[i] = -list[i]
			}
		}
		p.add(list)
	}
	for range 4000 {
		p.enough(anyLiterals(r, 9, 1+r.IntN(6))...)
	}
}
