package tableau_test

import (
	"testing"

	"elenchus/api"
)

// Where all bounds hold as all variables are 0, or two of one row clash, nothing is exchanged: no fuel is needed.
func TestFuelOfNone(t *testing.T) {
	p := problem{2, []api.Linear{sum(1, 0), sum(2, 0, 3, 1), sum()}, nil}
	for _, q := range []problem{p.of(), p.of(most(0, 0)), p.of(most(0, 1), least(0, -1), least(1, 0), most(2, 0)), p.of(least(1, -7), most(1, 7))} {
		if a := q.ask(t, 0); a.kind != api.Sat || a.used != 0 {
			t.Fatalf("Solve of %v, fuel 0: %v", q, a)
		}
	}
	for _, q := range []problem{p.of(most(0, 1), least(0, 2)), p.of(least(2, 1)), p.of(most(1, 7), most(2, -1), least(0, -1))} {
		if a := q.ask(t, 0); a.kind != api.Unsat || a.used != 0 {
			t.Fatalf("Solve of %v, fuel 0: %v", q, a)
		}
	}
}

// Where a row is to be what it isn't as all variables are 0, a row and a variable are exchanged.
func TestFuelOfNoneDoesNotSuffice(t *testing.T) {
	p := problem{2, []api.Linear{sum(1, 0), sum(2, 0, 3, 1)}, nil}
	for _, bounds := range [][]api.Bound{{least(0, 1)}, {most(0, -1)}, {most(1, -1), least(0, -4)}, {least(1, 7), most(0, 4)}, {least(0, 1), most(0, 1)}} {
		q := p.of(bounds...)
		if a := q.ask(t, 0); a.kind != api.Unknown {
			t.Fatalf("Solve of %v, fuel 0: %v", q, a)
		}
		if a := q.isSat(t); a.used != 1 {
			t.Fatalf("Solve of %v: %d was used", q, a.used)
		}
	}
}

// checkEachFuel fails unless the answer is told with just as much fuel as is used, and with more, and with no less.
func checkEachFuel(t *testing.T, p problem) {
	t.Helper()
	all := p.enough(t)
	for _, fuel := range []int{all.used, all.used + 1, 2*all.used + 5, api.MaxFuel - 1} {
		if a := p.ask(t, fuel); !isSame(a, all) {
			t.Fatalf("Solve of %v, fuel %d: %v, not %v", p, fuel, a, all)
		}
	}
	for fuel := range all.used {
		if a := p.ask(t, fuel); a.kind != api.Unknown {
			t.Fatalf("Solve of %v, fuel %d: %v, but %d is needed", p, fuel, a, all.used)
		}
	}
}

func TestEachFuel(t *testing.T) {
	for _, c := range rounds() {
		checkEachFuel(t, c.problem)
	}
	r := chance()
	for range 300 {
		checkEachFuel(t, anyProblem(r, 1+r.IntN(6), 2+r.IntN(8), 1+r.IntN(9)))
	}
}

// What is used is how often a row or variable was exchanged: for variables in a row, each by a row of its
// own, that is once a row.
func TestWhatIsUsed(t *testing.T) {
	for n := range 40 {
		p := problem{vars: n}
		for v := range n {
			p.rows = append(p.rows, sum(1, int64(v)))
			p.bounds = append(p.bounds, least(v, int64(v+1)))
		}
		if a := p.enough(t); a.kind != api.Sat || a.used != n {
			t.Fatalf("%d variables, each at least a number: %d, %d was used", n, a.kind, a.used)
		}
		checkEachFuel(t, p)
	}
}

// Layer 14's lines of P7: with a fuel of 1000 it isn't Unknown.
func TestFuelThatSufficesOfFew(t *testing.T) {
	r := chance()
	for range 3000 {
		vars := r.IntN(4)
		p := problem{vars: vars}
		for range 1 + r.IntN(8) {
			p.rows = append(p.rows, anyRow(r, vars, anyWord))
		}
		for range r.IntN(8) {
			p.bounds = append(p.bounds, api.Bound{Row: r.IntN(len(p.rows)), Upper: r.IntN(2) == 0, Val: anyWord(r)})
		}
		a := p.solve(t)
		if with := p.ask(t, 1000); !isSame(a, with) {
			t.Fatalf("Solve of %v, fuel 1000: %v, not %v", p, with, a)
		}
	}
}

func TestFuelThatSufficesOfRowsOfOne(t *testing.T) {
	r := chance()
	for range 3000 {
		vars := r.IntN(6)
		p := problem{vars: vars}
		var all api.Linear
		for v := range vars {
			coef := anyCoef(r, anyWord)
			all.Parts = append(all.Parts, api.Part{Coef: coef, Term: v})
			p.rows = append(p.rows, sum(anyOf[int64](r, 1, 1, -1, 3), int64(v)))
		}
		p.rows = append(p.rows, all)
		for row := range p.rows {
			p.bounds = append(p.bounds, api.Bound{Row: row, Upper: r.IntN(2) == 0, Val: anyWord(r)})
		}
		a := p.solve(t)
		if with := p.ask(t, 1000); !isSame(a, with) {
			t.Fatalf("Solve of %v, fuel 1000: %v, not %v", p, with, a)
		}
	}
}
