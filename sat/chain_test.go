package sat_test

import (
	"slices"
	"testing"

	"elenchus/api"
)

// chain is all clauses -v, v + 1 of n variables.
func chain(n int) [][]int {
	var out [][]int
	for v := 1; v < n; v++ {
		out = append(out, []int{-v, v + 1})
	}
	return out
}

// clashOnChain are the first of the numbers that are assumed and of the opposites that clash with it, of
// n variables that such clauses tie as told: 0, if none does.
func clashOnChain(tied []bool, assume []int) (int, int) {
	for _, l := range assume {
		if l < 0 {
			continue
		}
		for v := l; ; v++ {
			if slices.Contains(assume, -v) {
				return l, -v
			}
			if v >= len(tied) || !tied[v] {
				break
			}
		}
	}
	return 0, 0
}

// holdsOnChain asks with all fuel, and holds the answer against what clauses of a chain say.
func (p pair) holdsOnChain(tied []bool, assume []int) {
	p.t.Helper()
	a := p.asked(assume, api.MaxFuel)
	l, _ := clashOnChain(tied, assume)
	switch {
	case a.kind == api.Unknown || (a.kind == api.Unsat) != (l != 0):
		p.t.Fatalf("a chain of %d: Solve of %v: %d", p.o.n, assume, a.kind)
	case a.kind == api.Sat:
		return
	}
	if l, _ := clashOnChain(tied, a.core); l == 0 {
		p.t.Fatalf("a chain of %d: Solve of %v: Unsat by %v", p.o.n, assume, a.core)
	}
}

func wholeChain(n int) []bool {
	return slices.Repeat([]bool{true}, max(n, 0))
}

// All clauses -v, v + 1, with what is assumed at their beginning and end (P13.2).
func TestChains(t *testing.T) {
	for _, n := range []int{1, 2, 3, 4, 5, 9, 10, 11, 50, 99, 100, 255, 256, 257, 499, 500, 501} {
		for _, list := range [][]int{nil, {1}, {-1}, {n}, {-n}, {1, n}, {1, -n}, {-n, 1}, {-1, n}, {-1, -n}, {n, -1}, {1, -1}, {n, -n}, {1, -n, 1, -n}, {-n, n, 1, -1}} {
			p := newPair(t, n, chain(n)...)
			for range 2 {
				p.holdsOnChain(wholeChain(n), list)
				p.holdsOnChain(wholeChain(n), nil)
			}
		}
	}
}

func TestEachLengthOfChain(t *testing.T) {
	for n := 1; n <= 501; n += 1 + n/40 {
		p := newPair(t, n, chain(n)...)
		p.holdsOnChain(wholeChain(n), []int{1, -n})
		p.holdsOnChain(wholeChain(n), []int{-n})
		p.holdsOnChain(wholeChain(n), []int{1})
		p.holdsOnChain(wholeChain(n), []int{n, -1})
	}
}

// Anything assumed, of clauses in any order, some of them away, some often.
func TestAnyChains(t *testing.T) {
	r := chance()
	for round := range 300 {
		n := 1 + r.IntN(501)
		tied := wholeChain(n)
		clauses := chain(n)
		if round%2 == 0 {
			for range r.IntN(10) {
				tied[r.IntN(n)] = false
			}
			clauses = slices.DeleteFunc(clauses, func(c []int) bool { return !tied[-c[0]] })
		}
		if round%3 == 0 && len(clauses) > 0 {
			for range 2000 {
				clauses = append(clauses, clauses[r.IntN(len(clauses))])
			}
		}
		shuffle(r, clauses)
		for _, c := range clauses {
			if r.IntN(2) == 0 {
				slices.Reverse(c)
			}
		}
		p := newPair(t, n, clauses...)
		for range 10 {
			p.holdsOnChain(tied, anyLiterals(r, n, r.IntN(7)))
			from := 1 + r.IntN(n)
			p.holdsOnChain(tied, []int{from, -min(n, from+r.IntN(60))})
		}
		p.holdsOnChain(tied, anyLiterals(r, n, 3*n))
	}
}

// The chain's ends are said by clauses.
func TestEndsOfAChainAsClauses(t *testing.T) {
	for _, n := range []int{2, 3, 64, 500, 501} {
		for _, ahead := range []bool{true, false} {
			ends := [][]int{{1}, {-n}}
			clauses := slices.Concat(chain(n), ends)
			if ahead {
				clauses = slices.Concat(ends, chain(n))
			}
			p := newPair(t, n, clauses...)
			a := p.asked([]int{1, -n, n}, api.MaxFuel)
			if a.kind != api.Unsat || len(a.core) != 0 {
				t.Fatalf("a chain of %d, its ends clash: %v", n, a)
			}
			p = newPair(t, n, clauses[:len(clauses)-1]...)
			p.asked(nil, api.MaxFuel)
			p.add(clauses[len(clauses)-1])
			if a := p.asked(nil, api.MaxFuel); a.kind != api.Unsat || len(a.core) != 0 {
				t.Fatalf("a chain of %d, its ends clash at last: %v", n, a)
			}
		}
	}
}
