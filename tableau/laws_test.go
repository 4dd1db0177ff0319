package tableau_test

import (
	"math/big"
	"math/rand/v2"
	"testing"

	"elenchus/api"
)

// anySmall is a number near 0, told.
func anySmall(r *rand.Rand) api.Int {
	return small(int64(r.IntN(9) - 4))
}

// anyWord is a number of a word at most, mostly a great one.
func anyWord(r *rand.Rand) api.Int {
	n := of(anyOf(r, r.Uint64(), r.Uint64()>>r.IntN(64), uint64(r.IntN(5)), 1<<63, 1<<64-1))
	n.Neg = r.IntN(2) == 0
	return n
}

// anyCoef is such a number, but not 0.
func anyCoef(r *rand.Rand, number func(*rand.Rand) api.Int) api.Int {
	for {
		if n := number(r); meant(n).Sign() != 0 {
			return n
		}
	}
}

// anyRow is a sum of some variables.
func anyRow(r *rand.Rand, vars int, number func(*rand.Rand) api.Int) api.Linear {
	out := api.Linear{}
	for v := range vars {
		if r.IntN(3) > 0 {
			out.Parts = append(out.Parts, api.Part{Coef: anyCoef(r, number), Term: v})
		}
	}
	return out
}

// anyProblem is of small numbers.
func anyProblem(r *rand.Rand, vars, rows, bounds int) problem {
	p := problem{vars: vars}
	for range rows {
		p.rows = append(p.rows, anyRow(r, vars, anySmall))
	}
	for range bounds {
		p.bounds = append(p.bounds, api.Bound{Row: r.IntN(rows), Upper: r.IntN(2) == 0, Val: anySmall(r)})
	}
	return p
}

// All problems of few bounds on these rows of two variables.
func TestAllOfFewBounds(t *testing.T) {
	p := problem{2, []api.Linear{sum(1, 0), sum(1, 1), sum(1, 0, 1, 1), sum(2, 0, -1, 1), sum(-2, 0, 3, 1), sum()}, nil}
	var all []api.Bound
	for row := range p.rows {
		for val := int64(-1); val <= 1; val++ {
			all = append(all, most(row, val), least(row, val))
		}
	}
	for i, a := range all {
		p.of(a).solve(t)
		for j, b := range all[:i+1] {
			p.of(a, b).solve(t)
			for _, c := range all[:j+1] {
				p.of(a, b, c).solve(t)
			}
		}
	}
}

// Any problems, held against another way of telling.
func TestAnyProblems(t *testing.T) {
	r := chance()
	kinds := map[int]int{}
	for range 6000 {
		vars := r.IntN(5)
		a := anyProblem(r, vars, 1+r.IntN(8), r.IntN(9)).solve(t)
		kinds[a.kind]++
	}
	if kinds[api.Sat] < 1000 || kinds[api.Unsat] < 1000 {
		t.Fatalf("too few of a kind: %v", kinds)
	}
}

func TestAnyProblemsOfGreatNumbers(t *testing.T) {
	r := chance()
	great := func(r *rand.Rand) api.Int {
		n := api.Int{Neg: r.IntN(2) == 0}
		for range r.IntN(4) {
			n.Abs = append(n.Abs, anyOf[uint64](r, 0, 1, 1<<63, 1<<64-1, r.Uint64()))
		}
		return n
	}
	for range 1500 {
		vars := 1 + r.IntN(3)
		p := problem{vars: vars}
		for range 1 + r.IntN(5) {
			p.rows = append(p.rows, anyRow(r, vars, great))
		}
		for range 1 + r.IntN(6) {
			p.bounds = append(p.bounds, api.Bound{Row: r.IntN(len(p.rows)), Upper: r.IntN(2) == 0, Val: great(r)})
		}
		p.solve(t)
	}
}

// Where values are chosen first, and bounds are such that they hold by them, it is Sat, of however many
// variables. Where one row is others together, so many times, and its bound is beyond theirs, it is Unsat,
// and not without that bound.
func TestManyVariables(t *testing.T) {
	r := chance()
	for _, vars := range []int{5, 8, 12, 20, 30} {
		for range 120 / vars {
			p, come := chosen(r, vars, 2*vars)
			if a := p.enough(t); a.kind != api.Sat {
				t.Fatalf("Solve of %v: %d, but values by which all holds were chosen first", p, a.kind)
			}
			p = p.beyond(r, come, 2+r.IntN(vars))
			a := p.enough(t)
			if a.kind != api.Unsat || a.core[len(a.core)-1] != len(p.bounds)-1 {
				t.Fatalf("Solve of %v: %d, %v, but its last bound is beyond the others", p, a.kind, a.core)
			}
			if b := p.only(a.core).enough(t); b.kind != api.Unsat {
				t.Fatalf("Solve of %v: Unsat by %v, but these alone are answered by %d", p, a.core, b.kind)
			}
		}
	}
}

// chosen is a problem whose bounds hold by values that are chosen first, and what its rows come to by them.
func chosen(r *rand.Rand, vars, rows int) (problem, []*big.Int) {
	values := make([]int64, vars)
	for v := range values {
		values[v] = int64(r.IntN(41) - 20)
	}
	p := problem{vars: vars}
	var come []*big.Int
	for row := range rows {
		l, at := api.Linear{}, int64(0)
		for v := range vars {
			if r.IntN(vars) < 3 {
				coef := anyOf[int64](r, 1, -1, 2, -3, 7)
				at += coef * values[v]
				l.Parts = append(l.Parts, api.Part{Coef: small(coef), Term: v})
			}
		}
		p.rows = append(p.rows, l)
		come = append(come, big.NewInt(at))
		p.bounds = append(p.bounds, most(row, at+int64(r.IntN(3))), least(row, at-int64(r.IntN(3))))
	}
	return p, come
}

// beyond is a problem with a row more, which some rows of the problem are together, and a bound that
// what they may be doesn't reach.
func (p problem) beyond(r *rand.Rand, come []*big.Int, count int) problem {
	times := map[int]*big.Int{}
	top := new(big.Int)
	for range count {
		row, k := r.IntN(len(p.rows)), big.NewInt(int64(1+r.IntN(3)))
		for _, part := range p.rows[row].Parts {
			if times[part.Term] == nil {
				times[part.Term] = new(big.Int)
			}
			times[part.Term].Add(times[part.Term], new(big.Int).Mul(k, meant(part.Coef)))
		}
		top.Add(top, new(big.Int).Mul(k, meant(p.bounds[2*row].Val)))
	}
	l := api.Linear{}
	for v := range p.vars {
		if times[v] != nil && times[v].Sign() != 0 {
			l.Parts = append(l.Parts, api.Part{Coef: told(times[v]), Term: v})
		}
	}
	last := api.Bound{Row: len(p.rows), Val: told(top.Add(top, big.NewInt(1)))}
	return problem{p.vars, append(p.rows[:len(p.rows):len(p.rows)], l), append(p.bounds[:len(p.bounds):len(p.bounds)], last)}
}

// The same call is answered alike again, and what is answered doesn't hang on what was asked between.
func TestAskedAgain(t *testing.T) {
	r := chance()
	for range 200 {
		p := anyProblem(r, 1+r.IntN(6), 2+r.IntN(8), 1+r.IntN(10))
		a := p.enough(t)
		anyProblem(r, 3, 4, 5).enough(t)
		for range 4 {
			if b := p.enough(t); !isSame(a, b) {
				t.Fatalf("Solve of %v: first %v, then %v", p, a, b)
			}
		}
	}
	p, _ := chosen(r, 25, 50)
	a := p.enough(t)
	for range 10 {
		if b := p.enough(t); !isSame(a, b) {
			t.Fatalf("Solve of %v: first %v, then %v", p, a, b)
		}
	}
}
