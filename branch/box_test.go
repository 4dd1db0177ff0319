package branch_test

import (
	"math/big"
	"math/rand/v2"
	"testing"

	"elenchus/api"
)

// solveBox is the answer of a problem whose variables are all kept near one another, held against all
// whole numbers tried one by one. It isn't Unknown.
func (p problem) solveBox(t *testing.T) answer {
	t.Helper()
	a := p.solve(t)
	if values := p.meet(); (values != nil) != (a.kind == api.Sat) {
		t.Fatalf("Solve of %v: %d, %v, but all bounds are met by %v", p, a.kind, a.core, values)
	}
	return a
}

// anyNumber is a number: near 0, of a word, or very long.
func anyNumber(r *rand.Rand, size int) *big.Int {
	out := new(big.Int)
	for range size {
		out.Lsh(out, 64)
		out.Or(out, new(big.Int).SetUint64(anyOf[uint64](r, 0, 1, 1<<63, 1<<64-1, r.Uint64(), r.Uint64())))
	}
	if size == 0 {
		out.SetInt64(anyNear(r, 7))
	}
	if r.IntN(2) == 0 {
		out.Neg(out)
	}
	return out
}

// anyBox is a problem of which each variable has a row of its own, with bounds that differ by at most 2,
// and further rows and bounds, at most 12 bounds in all; they stand in any order.
func anyBox(r *rand.Rand, vars, size int) problem {
	p := problem{vars: vars}
	var middle []*big.Int
	for v := range vars {
		low := anyNear(r, 3)
		p = p.with(sum(1, int64(v)), low, low+anyOf[int64](r, 0, 1, 1, 2, 2, 2, 2, 2))
		if r.IntN(40) == 0 {
			n := len(p.bounds)
			p.bounds[n-1], p.bounds[n-2] = most(len(p.rows)-1, low), least(len(p.rows)-1, low+1+int64(r.IntN(2)))
		}
		middle = append(middle, big.NewInt(low+int64(r.IntN(2))))
	}
	for range r.IntN(13 - len(p.bounds)) {
		n := r.IntN(len(p.rows) + 2)
		for n >= len(p.rows) {
			p.rows = append(p.rows, anyLongRow(r, vars, size))
		}
		come := new(big.Int)
		for _, part := range p.rows[n].Parts {
			come.Add(come, new(big.Int).Mul(meant(part.Coef), middle[part.Term]))
		}
		come.Add(come, big.NewInt(anyNear(r, 2)))
		p.bounds = append(p.bounds, api.Bound{Row: n, Upper: r.IntN(2) == 0, Val: told(come)})
	}
	return p.turned(r)
}

// anyLongRow is a sum of some variables, of numbers of so many words.
func anyLongRow(r *rand.Rand, vars, size int) api.Linear {
	out := api.Linear{}
	for v := range vars {
		if coef := anyNumber(r, size); coef.Sign() != 0 && r.IntN(4) > 0 {
			out.Parts = append(out.Parts, api.Part{Coef: told(coef), Term: v})
		}
	}
	return out
}

// turned is the same problem, its rows and bounds in another order.
func (p problem) turned(r *rand.Rand) problem {
	out := problem{vars: p.vars, rows: make([]api.Linear, len(p.rows))}
	to := r.Perm(len(p.rows))
	for i, l := range p.rows {
		out.rows[to[i]] = l
	}
	for _, b := range p.bounds {
		b.Row = to[b.Row]
		out.bounds = append(out.bounds, b)
	}
	return out.shuffled(r)
}

// Of P15.2 all sides' lengths, and all numbers near 0 that one row more may have and come to.
func TestAllBoxes(t *testing.T) {
	kinds := map[int]int{}
	for kind := range int64(27) {
		p := box([2]int64{-1, kind%3 - 1}, [2]int64{0, kind / 3 % 3}, [2]int64{2, 2 + kind/9})
		p.solveBox(t)
		for coefs := range int64(64) {
			row := dense(coefs%4-1, coefs/4%4*2-3, coefs/16*3-4)
			for val := int64(-10); val <= 10; val += 2 {
				kinds[p.with(row, val, val).solveBox(t).kind]++
			}
		}
	}
	if kinds[api.Sat] < 3000 || kinds[api.Unsat] < 3000 {
		t.Fatalf("too few of a kind: %v", kinds)
	}
}

func TestAnySmallBoxes(t *testing.T) {
	r := chance()
	for _, size := range []int{0, 1, 2, 5} {
		kinds := map[int]int{}
		for range 1500 {
			p := anyBox(r, r.IntN(4), size)
			kinds[p.solveBox(t).kind]++
		}
		if kinds[api.Sat] < 250 || kinds[api.Unsat] < 250 {
			t.Fatalf("numbers of %d words: too few of a kind: %v", size, kinds)
		}
	}
}

// Moved far away from 0 a problem is answered by the same kind, and what is told of it is right there.
func TestBoxesFarAway(t *testing.T) {
	r := chance()
	for _, digits := range []int64{1, 3, 9, 19, 20, 40, 300} {
		for range 150 {
			p := anyBox(r, 1+r.IntN(3), r.IntN(2))
			var by []*big.Int
			for range p.vars {
				far := long(digits, anyNear(r, 9))
				if r.IntN(2) == 0 {
					far.Neg(far)
				}
				by = append(by, far)
			}
			q := p.shifted(by...)
			near, far := p.solveBox(t), q.enough(t)
			if far.kind != near.kind {
				t.Fatalf("Solve of %v: %d, but near 0 it is %d", q, far.kind, near.kind)
			}
			if far.kind == api.Unsat && p.only(far.core).meet() != nil {
				t.Fatalf("Solve of %v: Unsat by %v, which can hold together", q, far.core)
			}
		}
	}
}

// Of the three numbers of each variable just those hold that are asked for, at whichever corner they are.
func TestEachCorner(t *testing.T) {
	sides := [][2]int64{{-1, 1}, {4, 6}, {-9, -7}}
	for corner := range int64(27) {
		at := []int64{corner%3 - 1, corner/3%3 + 4, corner/9 - 9}
		total := at[0] + 3*at[1] + 9*at[2]
		p := box(sides...).with(dense(1, 3, 9), total, total)
		a := p.solveBox(t)
		for v, n := range a.numbers {
			if !isSameInt(n, small(at[v])) {
				t.Fatalf("Solve of %v: %v, not %v", p, a.numbers, at)
			}
		}
	}
}

// Twelve bounds, among them those that are said twice, and less and more tightly.
func TestTwelveBounds(t *testing.T) {
	r := chance()
	for range 500 {
		p := box([2]int64{0, 2}, [2]int64{0, 2}, [2]int64{0, 2})
		p.rows = append(p.rows, anyRow(r, 3, 9))
		for len(p.bounds) < 12 {
			b := p.bounds[r.IntN(len(p.bounds))]
			if r.IntN(3) == 0 {
				b = api.Bound{Row: 3, Upper: r.IntN(2) == 0, Val: small(anyNear(r, 12))}
			} else if r.IntN(2) == 0 {
				b.Val = told(new(big.Int).Add(meant(b.Val), big.NewInt(anyNear(r, 1))))
			}
			p.bounds = append(p.bounds, b)
		}
		p.shuffled(r).solveBox(t)
	}
}
