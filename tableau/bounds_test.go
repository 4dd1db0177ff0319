package tableau_test

import (
	"math/big"
	"testing"

	"elenchus/api"
)

// someRows are problems without bounds, in which a row has parts, and may be anything.
func someRows() []problem {
	return []problem{
		{1, []api.Linear{sum(1, 0)}, nil},
		{1, []api.Linear{sum(-4, 0)}, nil},
		{3, []api.Linear{sum(1, 0, -2, 2)}, nil},
		{2, []api.Linear{sum(6, 0, 10, 1), sum(1, 0)}, nil},
	}
}

// The same bound twice says no more than once, and it is told no more than once.
func TestBoundTwice(t *testing.T) {
	for _, p := range someRows() {
		for _, val := range []int64{-3, 0, 3} {
			p.of(most(0, val), most(0, val)).isSat(t)
			p.of(least(0, val), least(0, val), least(0, val)).isSat(t)
			p.of(least(0, val), most(0, val), least(0, val), most(0, val)).isSat(t)
			a := p.of(most(0, val), most(0, val), least(0, val+1), least(0, val+1)).clashes(t)
			if len(a.core) < 2 {
				t.Fatalf("Solve of %v: Unsat by %v", p, a.core)
			}
		}
	}
}

// An upper and a lower bound of one row: of the same number, apart by one, and the wrong way round.
func TestBoundsOfOneRow(t *testing.T) {
	for _, p := range someRows() {
		for _, val := range []int64{-1000, -1, 0, 1, 1000} {
			p.of(most(0, val), least(0, val)).isSat(t)
			p.of(least(0, val), most(0, val)).isSat(t)
			p.of(most(0, val+1), least(0, val)).isSat(t)
			p.of(least(0, val), most(0, val-1)).isUnsat(t, 0, 1)
			p.of(most(0, val-1), least(0, val)).isUnsat(t, 0, 1)
			p.of(most(0, -500-val), least(0, 500+val), most(0, 2000)).ask(t, 0)
			p.of(most(0, 3000), least(0, val), least(0, -3000), most(0, val-1), least(0, val-1)).isUnsat(t, 1, 3)
		}
	}
}

// Bounds that clash on one row are told though another row comes first, and nothing is exchanged for it.
func TestClashWithoutExchange(t *testing.T) {
	p := problem{2, []api.Linear{sum(1, 0, 1, 1), sum(1, 0), sum(1, 1)}, nil}
	for _, bounds := range [][]api.Bound{
		{least(0, 5), most(2, 1), least(2, 2)},
		{most(1, 1), most(2, 0), least(2, 1)},
	} {
		q := p.of(bounds...)
		q.isUnsat(t, 1, 2)
		if a := q.ask(t, 0); a.kind != api.Unsat || a.used != 0 {
			t.Fatalf("Solve of %v, fuel 0: %v", q, a)
		}
	}
	q := p.of(least(2, 1), most(0, -9), most(2, 0))
	if a := q.ask(t, 0); a.kind != api.Unsat || a.used != 0 {
		t.Fatalf("Solve of %v, fuel 0: %v", q, a)
	}
	q.isUnsat(t, 0, 2)
}

// Of bounds that say more and less those that say more count, in whatever order they stand.
func TestTightestBoundsCount(t *testing.T) {
	p := problem{2, []api.Linear{sum(1, 0), sum(1, 1), sum(1, 0, 1, 1)}, nil}
	p.of(most(0, 9), most(0, 1), most(0, 5), most(1, 7), most(1, 2), least(2, 4)).isUnsat(t, 1, 4, 5)
	p.of(most(0, 9), most(0, 1), most(0, 5), most(1, 7), most(1, 2), least(2, 3)).isSat(t)
	p.of(least(2, 0), least(2, 4), least(2, -2), most(1, 2), most(1, 3), most(0, 1)).isUnsat(t, 1, 3, 5)
	p.of(least(0, 1), least(0, 2), least(0, -3), least(1, -5), least(1, 2), most(2, 4), most(2, 3)).isUnsat(t, 1, 4, 6)
}

// Numbers may be as long as they like, of bounds and of how many times a variable is taken.
func TestLongNumbers(t *testing.T) {
	for _, digits := range []int64{19, 20, 40, 300, 3000} {
		n := told(long(digits, 0))
		more, less := told(long(digits, 1)), told(long(digits, -1))
		for _, p := range someRows() {
			p.of(api.Bound{Val: n}, api.Bound{Upper: true, Val: n}).isSat(t)
			p.of(api.Bound{Val: n}, api.Bound{Upper: true, Val: more}).isSat(t)
			p.of(api.Bound{Val: n}, api.Bound{Upper: true, Val: less}).isUnsat(t, 0, 1)
			p.of(api.Bound{Upper: true, Val: n}, api.Bound{Val: less}).isSat(t)
			p.of(api.Bound{Upper: true, Val: n}, api.Bound{Val: more}).isUnsat(t, 0, 1)
		}
	}
}

func TestLongTimes(t *testing.T) {
	for _, digits := range []int64{19, 40, 200} {
		n, more := told(long(digits, 0)), told(long(digits, 1))
		rows := []api.Linear{
			{Parts: []api.Part{{Coef: n}, {Coef: more, Term: 1}}},
			{Parts: []api.Part{{Coef: more}, {Coef: n, Term: 1}}},
			sum(1, 0, 1, 1),
		}
		p := problem{vars: 2, rows: rows}
		p.of(least(0, 1), most(0, 1), least(1, 0), most(1, 0)).isSat(t)
		p.of(least(0, 1), least(1, 0), most(2, 0)).isUnsat(t, 0, 1, 2)
		twice := told(new(big.Int).Add(long(digits, 0), long(digits, 1)))
		p.of(most(0, 1), most(1, 1), api.Bound{Row: 2, Val: twice}).isUnsat(t, 0, 1, 2)
		p.of(api.Bound{Val: twice}, api.Bound{Row: 1, Val: twice}, most(2, 2)).isSat(t)
		p.of(api.Bound{Val: twice}, api.Bound{Row: 1, Val: twice}, most(2, 1)).isUnsat(t, 0, 1, 2)
		p.of(api.Bound{Val: twice}, least(0, 1), most(1, 5)).isSat(t)
	}
}
