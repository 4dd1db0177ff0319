package branch_test

import (
	"testing"

	"elenchus/api"
	"elenchus/tableau"
)

// Without fuel layer 14 can't be asked.
func TestNoFuel(t *testing.T) {
	p := problem{2, []api.Linear{sum(1, 0), sum(2, 0, 3, 1), sum()}, nil}
	for _, q := range []problem{{}, p, p.of(most(0, 0)), p.of(least(0, 1)), p.of(most(0, 1), least(0, 2)), p.of(least(2, 1)), p.of(least(1, 7), most(1, 7))} {
		if a := q.ask(t, 0); a.kind != api.Unknown || a.used != 0 {
			t.Fatalf("Solve of %v, fuel 0: %v", q, a)
		}
		q.enough(t)
	}
}

// checkEachFuel fails unless the answer is told with just as much fuel as is used, and with more, and with no less.
func checkEachFuel(t *testing.T, p problem) {
	t.Helper()
	all := p.ask(t, api.MaxFuel)
	for _, fuel := range []int{all.used, all.used + 1, 2*all.used + 5, api.MaxFuel - 1} {
		if a := p.ask(t, fuel); !isSame(a, all) {
			t.Fatalf("Solve of %v, fuel %d: %v, not %v", p, fuel, a, all)
		}
	}
	for fuel := range all.used {
		if a := p.ask(t, fuel); a.kind != api.Unknown {
			t.Fatalf("Solve of %v, fuel %d: %v, but %d is needed", p, fuel, a, all.used)
		}
	}
}

func TestEachFuel(t *testing.T) {
	r := chance()
	for range 200 {
		checkEachFuel(t, anyBox(r, r.IntN(4), r.IntN(2)))
		checkEachFuel(t, anyProblem(r, r.IntN(3), 1+r.IntN(5), r.IntN(8)))
	}
	checkEachFuel(t, box([2]int64{0, 9}, [2]int64{0, 9}).with(dense(1000, -999), 300, 700))
	checkEachFuel(t, box([2]int64{0, 1}, [2]int64{0, 1}, [2]int64{0, 1}, [2]int64{0, 1}).with(dense(12, 17, 23, 31), 41, 41))
}

// What is used is no less than what layer 14 uses, and once more for asking it: here each variable is to
// be what it isn't at first, and all fractions are whole at once, or bounds clash by fractions, too.
func TestExchangesCount(t *testing.T) {
	for n := range 30 {
		p := problem{vars: n}
		for v := range n {
			p.rows = append(p.rows, sum(1, int64(v)))
			p.bounds = append(p.bounds, least(v, int64(v+1)))
		}
		checkUsed(t, p, api.Sat)
		coefs := make([]int64, n)
		for v := range coefs {
			coefs[v] = 1
		}
		p.rows = append(p.rows, dense(coefs...))
		checkUsed(t, p.and(most(n, int64(n*(n+1)/2-1))), api.Unsat)
	}
}

func checkUsed(t *testing.T, p problem, want int) {
	t.Helper()
	_, _, _, under, _ := tableau.Solve(p.vars, p.rows, p.bounds, api.MaxFuel)
	a := p.enough(t)
	if a.kind != want || a.used < under+1 {
		t.Fatalf("Solve of %v: %d, %d was used, but layer 14 uses %d", p, a.kind, a.used, under)
	}
	checkEachFuel(t, p)
}
