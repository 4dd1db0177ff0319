package tableau_test

import (
	"math/big"
	"testing"

	"elenchus/api"
)

// Without rows, or without bounds, all holds, and nothing needs to be exchanged.
func TestNoRowsAndNoBounds(t *testing.T) {
	lists := [][]api.Linear{nil, {}, {sum()}, {sum(), sum()}, {sum(1, 0)}, {sum(1, 0, 2, 1), sum(), sum(1, 0, 2, 1), sum(-7, 2)}}
	for _, rows := range lists {
		for _, bounds := range [][]api.Bound{nil, {}} {
			p := problem{3, rows, bounds}
			for _, fuel := range []int{0, 1, api.MaxFuel} {
				if a := p.ask(t, fuel); a.kind != api.Sat || a.used != 0 {
					t.Fatalf("Solve of %v, fuel %d: %v", p, fuel, a)
				}
			}
		}
	}
	problem{}.isSat(t)
}

// A row without parts comes to 0, whatever the variables are.
func TestRowWithoutParts(t *testing.T) {
	for _, empty := range []api.Linear{{}, {Parts: []api.Part{}}, {Const: below(0)}} {
		for _, vars := range []int{0, 2} {
			p := problem{vars: vars, rows: []api.Linear{empty}}
			p.of(most(0, 0), least(0, 0), most(0, 5), least(0, -5)).isSat(t)
			p.of(most(0, -1)).isUnsat(t, 0)
			p.of(least(0, 1)).isUnsat(t, 0)
			p.of(most(0, 4), least(0, -1), least(0, 1), most(0, 0)).clashes(t)
			p.of(least(0, 3), most(0, 3)).clashes(t)
			p.of(least(0, 3), most(0, -3)).clashes(t)
			p.of(least(0, -3), most(0, -2)).isUnsat(t, 1)
		}
		p := problem{2, []api.Linear{sum(1, 0), empty, sum(1, 1)}, nil}
		p.of(least(0, 1), most(1, -1), least(2, 1)).isUnsat(t, 1)
		p.of(least(0, 1), most(1, 0), least(2, 1)).isSat(t)
		p.of(least(2, 1), least(0, 1), most(0, 3), least(1, 1)).isUnsat(t, 3)
	}
}

// A row that stands twice comes to the same twice.
func TestRowsAlike(t *testing.T) {
	for _, l := range []api.Linear{sum(1, 0), sum(-3, 1), sum(2, 0, -5, 1), sum(1, 0, 1, 1, 1, 2)} {
		p := problem{3, []api.Linear{l, l, sum(7, 2), l}, nil}
		p.of(most(0, 1), least(1, 2)).isUnsat(t, 0, 1)
		p.of(least(1, 2), least(2, 9), most(0, 1)).isUnsat(t, 0, 2)
		p.of(least(1, 2), most(0, 2), least(3, 2), most(3, 2)).isSat(t)
		p.of(least(0, -4), most(1, 3), least(1, 3), most(3, 2), least(2, 1)).clashes(t)
		p.of(least(0, 5), least(1, 6), least(3, 7), most(0, 8), most(1, 7)).isSat(t)
		p.of(least(0, 5), least(1, 6), least(3, 7), most(0, 8), most(1, 6)).isUnsat(t, 2, 4)
	}
}

// A row that is another one, so many times, comes to so many times what that comes to.
func TestRowsSoManyTimes(t *testing.T) {
	for _, l := range []api.Linear{sum(1, 0), sum(2, 0, -5, 1), sum(3, 1, 1, 2)} {
		for _, k := range []int64{2, 3, 7, 1 << 40, -1, -2, -9} {
			times := api.Linear{}
			for _, part := range l.Parts {
				times.Parts = append(times.Parts, api.Part{Coef: told(new(big.Int).Mul(meant(part.Coef), big.NewInt(k))), Term: part.Term})
			}
			checkSoManyTimes(t, problem{3, []api.Linear{l, times}, nil}, k)
			checkSoManyTimes(t, problem{3, []api.Linear{l, times, l, times, sum(1, 0)}, nil}, k)
		}
	}
}

// checkSoManyTimes fails unless bounds of the row 1 go together with those of the row 0 as they should: it is that one, k times.
func checkSoManyTimes(t *testing.T, p problem, k int64) {
	t.Helper()
	for _, at := range []int64{-4, -1, 0, 1, 5} {
		p.of(least(0, at), most(0, at), least(1, k*at), most(1, k*at)).isSat(t)
		up, down := most(1, k*at-1), least(1, k*at+1)
		if k < 0 {
			up, down = least(1, k*at+1), most(1, k*at-1)
		}
		p.of(least(0, at), up).isUnsat(t, 0, 1)
		p.of(most(0, at), down).isUnsat(t, 0, 1)
		p.of(least(0, at), down).isSat(t)
		p.of(most(0, at), up).isSat(t)
	}
}

// A row that is the sum of two others, with bounds on all.
func TestRowsTogether(t *testing.T) {
	p := problem{2, []api.Linear{sum(1, 0, 1, 1), sum(1, 0, -1, 1), sum(2, 0), sum(2, 1)}, nil}
	p.of(most(0, 3), most(1, 4), least(2, 7)).isSat(t)
	p.of(most(0, 3), most(1, 4), least(2, 8)).isUnsat(t, 0, 1, 2)
	p.of(most(0, 3), least(1, 4), most(3, -1), least(0, 3)).isSat(t)
	p.of(most(0, 3), least(1, 4), least(3, 0)).isUnsat(t, 0, 1, 2)
	p.of(least(2, 1), least(3, 1), most(0, 0)).isUnsat(t, 0, 1, 2)
	p.of(least(2, 1), least(3, 1), most(0, 1)).isSat(t)
}

// Variables that stand in no row have a fraction, too, and so have those whose rows have no bounds.
func TestVariablesInNoRow(t *testing.T) {
	p := problem{api.MaxTerms, []api.Linear{sum(1, 5), sum(1, 5, -1, 4000), sum(2, 70)}, []api.Bound{least(0, 3), most(1, 1), least(1, 1)}}
	a := p.enough(t)
	if a.kind != api.Sat {
		t.Fatalf("Solve of %v: %d", p, a.kind)
	}
	for v, x := range a.values {
		if len(x.Den) == 0 {
			t.Fatalf("the variable %d is %v", v, x)
		}
	}
	problem{5, []api.Linear{sum(1, 2)}, []api.Bound{most(0, -3)}}.isSat(t)
	problem{5, []api.Linear{sum(1, 2, 1, 4), sum(1, 1), sum(1, 4)}, []api.Bound{most(0, -3), least(2, 1)}}.isSat(t)
}

// What all must be by bounds is told, though it is no whole number.
func TestFractionsThatMustBe(t *testing.T) {
	p := problem{3, []api.Linear{sum(2, 0, 3, 1), sum(5, 0, -1, 1), sum(1, 0, 1, 1, 7, 2)}, nil}
	a := p.of(least(0, 1), most(0, 1), least(1, 0), most(1, 0), least(2, -2), most(2, -2)).isSat(t)
	for v, want := range []*big.Rat{big.NewRat(1, 17), big.NewRat(5, 17), big.NewRat(-40, 119)} {
		if got := fraction(t, a.values[v]); got.Cmp(want) != 0 {
			t.Fatalf("the variable %d is %s, not %s", v, got, want)
		}
	}
}
