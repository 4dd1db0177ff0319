package sat_test

import (
	"slices"
	"testing"

	"elenchus/api"
)

// All that is assumed, though it stands twice.
func TestAssumedTwice(t *testing.T) {
	p := newPair(t, 3, []int{1, 2, 3})
	p.isSat(1, 1)
	p.isSat(-1, -1, -2, -1, -2)
	p.isUnsat([]int{-1, -2, -1, -3, -3, -2}, -1, -2, -3)
	p.isUnsat([]int{-3, -3, -3, -2, -3, -1, -1}, -3, -2, -1)
	p.add([]int{-2})
	p.isSat(-2, -2, -2)
	p.isUnsat([]int{2, 2}, 2)
}

// One that is assumed, and its opposite: they clash with no clause at all.
func TestOppositesAssumed(t *testing.T) {
	for _, l := range []int{1, -1, 2, -2, 4, -4} {
		p := newPair(t, 4)
		p.isUnsat([]int{l, -l}, l, -l)
		p.isUnsat([]int{l, 3, -l}, l, -l)
		p.isUnsat([]int{3, l, l, -l, l, -3}[:5], l, -l)
		p.add([]int{l, 3}, []int{-3, 1, 2, 4})
		p.isUnsat([]int{-l, l}, -l, l)
		p.add([]int{l})
		p.isUnsat([]int{-l}, -l)
		a := p.enough(l, -l)
		if a.kind != api.Unsat || !slices.Contains(a.core, -l) {
			t.Fatalf("%d and its opposite, where it holds: %v", l, a)
		}
		p.add([]int{-l})
		p.isUnsat([]int{l, -l})
		p.isUnsat([]int{-l, l, 3})
	}
}

// In whichever order they are assumed, they are told in it.
func TestOrderOfCore(t *testing.T) {
	r := chance()
	need := []int{1, -2, 3, -4, 5, -6, 7, -8}
	clause := []int{}
	for _, l := range need {
		clause = append(clause, -l)
	}
	for range 300 {
		p := newPair(t, 10, clause)
		shuffle(r, need)
		p.isUnsat(need, need...)
		list := append(slices.Clone(need), anyLiterals(r, 2, 5)...)
		for i := range list[8:] {
			list[8+i] = need[r.IntN(8)]
		}
		p.isUnsat(list, need...)
	}
}

// What doesn't clash with anything isn't to blame alone; what does is told, wherever it stands.
func TestOneIsToBlame(t *testing.T) {
	for at := range 6 {
		p := newPair(t, 8, []int{1, 2}, []int{1, -2}, []int{3, 4, 5}, []int{-6, 7})
		list := slices.Insert([]int{3, -4, 6, 7, 8}, at, -1)
		a := p.enough(list...)
		if a.kind != api.Unsat || !slices.Contains(a.core, -1) {
			t.Fatalf("Solve of %v: %v", list, a)
		}
	}
}

// Where the clauses clash alone none is told, though they clash with what is assumed sooner.
func TestClausesClashAlone(t *testing.T) {
	n, hard := pigeons(4, 3)
	for v := 1; v <= n; v++ {
		p := newPair(t, n, hard...)
		p.isUnsat([]int{v})
		p.isUnsat([]int{-v})
		p = newPair(t, n, hard...)
		p.isUnsat([]int{-v, v})
		p = newPair(t, n, hard...)
		p.isUnsat([]int{-1, -2, -3, v})
		p = newPair(t, n, hard...)
		p.isUnsat([]int{v, 1, -1})
		p.isUnsat(nil)
	}
	all := [][]int{{1, 2}, {-1, 2}, {1, -2}, {-1, -2}}
	for _, list := range [][]int{nil, {1}, {-1}, {2}, {-2}, {1, 2}, {1, -1}, {-2, -1, 2}, {3}, {3, -3}} {
		p := newPair(t, 3, all...)
		p.isUnsat(list)
		p = newPair(t, 3, all[:3]...)
		p.enough(list...)
		p.add(all[3])
		p.isUnsat(list)
	}
}

// All clauses of two variables, in all sets, with all that can be assumed of up to three literals.
func TestAllOfTwoVariables(t *testing.T) {
	clauses := slices.Concat(allClauses(2)...)
	lists := [][]int{{}}
	for from := 0; len(lists) < 1+4+16+64; from++ {
		for _, l := range []int{1, -1, 2, -2} {
			lists = append(lists, append(slices.Clone(lists[from]), l))
		}
	}
	for set := range 1 << len(clauses) {
		p := newPair(t, 2)
		for i, c := range clauses {
			if set>>i&1 == 1 {
				p.add(c)
			}
		}
		for _, list := range lists {
			p.enough(list...)
		}
	}
}

// A clash that is found through many clauses is told by what began it.
func TestFarClash(t *testing.T) {
	p := newPair(t, 12, []int{-1, -2, 3}, []int{-3, 4}, []int{-3, 5}, []int{-4, -5, 6}, []int{-6, -7, 8}, []int{-8, 9}, []int{-9, 10}, []int{-10, -11, -12})
	p.isUnsat([]int{1, 2, 7, 11, 12}, 1, 2, 7, 11, 12)
	p.isUnsat([]int{12, 11, 7, 2, 1}, 12, 11, 7, 2, 1)
	for i := range 5 {
		list := []int{12, 11, 7, 2, 1}
		p.isSat(slices.Delete(list, i, i+1)...)
	}
	p.isUnsat([]int{4, 5, 7, 10, 11, 12}[3:], 10, 11, 12)
	p.clashes(4, 5, 7, 10, 11, 12)
	p.clashes(4, 5, 7, 11, 12)
	p.add([]int{1}, []int{2}, []int{7})
	p.isUnsat([]int{11, 3, 12}, 11, 12)
	p.add([]int{11})
	p.isUnsat([]int{8, 9, 12}, 12)
	p.add([]int{12})
	p.isUnsat([]int{8, 9, 12})
}
