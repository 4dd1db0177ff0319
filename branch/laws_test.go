package branch_test

import (
	"math/big"
	"math/rand/v2"
	"testing"

	"elenchus/api"
)

// anyNear is a number near 0.
func anyNear(r *rand.Rand, far int) int64 {
	return int64(r.IntN(2*far+1) - far)
}

// anyRow is a sum of some variables, each at most so many times.
func anyRow(r *rand.Rand, vars, far int) api.Linear {
	coefs := make([]int64, vars)
	for v := range coefs {
		if r.IntN(3) > 0 {
			coefs[v] = anyNear(r, far)
		}
	}
	return dense(coefs...)
}

// come is what a row of small numbers comes to by these values.
func come(l api.Linear, values []*big.Int) int64 {
	out := int64(0)
	for _, part := range l.Parts {
		out += meant(part.Coef).Int64() * values[part.Term].Int64()
	}
	return out
}

// anyProblem is of small numbers.
func anyProblem(r *rand.Rand, vars, rows, bounds int) problem {
	p := problem{vars: vars}
	for range rows {
		p.rows = append(p.rows, anyRow(r, vars, 3))
	}
	for range bounds {
		p.bounds = append(p.bounds, api.Bound{Row: r.IntN(rows), Upper: r.IntN(2) == 0, Val: small(anyNear(r, 4))})
	}
	return p
}

// shifted is the same problem, but that each variable is more by a number.
func (p problem) shifted(by ...*big.Int) problem {
	out := p.of()
	for _, b := range p.bounds {
		val := meant(b.Val)
		for _, part := range p.rows[b.Row].Parts {
			val.Add(val, new(big.Int).Mul(meant(part.Coef), by[part.Term]))
		}
		b.Val = told(val)
		out.bounds = append(out.bounds, b)
	}
	return out
}

// shuffled is the same problem, its bounds in another order.
func (p problem) shuffled(r *rand.Rand) problem {
	return p.only(r.Perm(len(p.bounds)))
}

// No variable, no row, no bound.
func TestNothing(t *testing.T) {
	for vars := range 6 {
		problem{vars: vars}.isSat(t)
		p := problem{vars: vars, rows: []api.Linear{sum(), sum()}}
		p.isSat(t)
		p.of(most(0, 0), least(1, 0), most(1, 7), least(0, -7)).isSat(t)
		p.of(most(0, 0), least(1, 1)).isUnsat(t, 1)
		p.of(most(0, -1), least(1, 0)).isUnsat(t, 0)
		if vars > 0 {
			p.rows = append(p.rows, sum(3, 0))
			p.isSat(t)
			p.of(most(0, 0)).isSat(t)
			p.of(least(2, 4), most(2, 5), least(1, 0)).isUnsat(t, 0, 1)
		}
	}
}

// Problems whose fractions are whole at once: each bound is of one variable.
func TestWholeAtOnce(t *testing.T) {
	for low := int64(-5); low <= 5; low++ {
		for high := low - 2; high <= low+2; high++ {
			p := box([2]int64{low, high}, [2]int64{-low, 9}, [2]int64{-3, high})
			switch {
			case low <= high && high >= -3:
				p.isSat(t)
			case low > high && high >= -3:
				p.isUnsat(t, 0, 1)
			default:
				p.clashes(t)
			}
		}
	}
	equal := problem{3, []api.Linear{sum(1, 0, -1, 1), sum(1, 1, -1, 2), sum(1, 0, -1, 2)}, nil}
	equal.of(most(0, -1), most(1, -1), least(2, -2)).isSat(t)
	equal.of(most(0, -1), most(1, -1), least(2, -1)).isUnsat(t, 0, 1, 2)
}

// Twice a sum is no odd number, three times a sum is none between 1 and 2. Where nothing keeps the
// variables, that may be Unknown; where something does, it isn't, and which bounds do is free.
func TestFractionsWithoutWholeNumbers(t *testing.T) {
	for _, coefs := range [][]int64{{2}, {2, 2}, {2, -2}, {-2, -2}, {4, -6}, {2, 2, 2}, {2, -4, 6}} {
		for _, odd := range []int64{-1001, -3, -1, 1, 3, 7, 1001} {
			p := problem{vars: len(coefs)}.with(dense(coefs...), odd, odd)
			p.mayClash(t, 0, 1)
			p.of(most(0, odd), least(0, odd-1)).isNot(t, api.Unsat)
		}
	}
	for _, coefs := range [][]int64{{3}, {3, 3}, {3, -3}, {-3, 6}, {3, 3, 3}, {9, -3, -6}} {
		for _, low := range []int64{-1001, -5, -2, 1, 4, 1000} {
			p := problem{vars: len(coefs)}.with(dense(coefs...), low, low+1)
			p.mayClash(t, 0, 1)
			p.of(least(0, low), most(0, low+2)).isNot(t, api.Unsat)
		}
	}
	for _, row := range []api.Linear{dense(2, 2, 2), dense(2, -2, 4), dense(-6, 4, 2)} {
		for odd := int64(-9); odd <= 9; odd += 2 {
			p := box([2]int64{-3, 3}, [2]int64{-1, 4}, [2]int64{0, 3})
			p.with(row, odd, odd).clashes(t)
			if odd*odd < 25 {
				p.with(row, odd-1, odd).isSat(t)
			}
		}
	}
}

// isNot fails if this is the answer. It may be Unknown.
func (p problem) isNot(t *testing.T, kind int) {
	t.Helper()
	if a := p.check(t, api.MaxFuel); a.kind == kind {
		t.Fatalf("Solve of %v: %d, %v, %v", p, kind, a.numbers, a.core)
	}
}

// mayClash fails unless a problem is Unsat by just these bounds, or Unknown.
func (p problem) mayClash(t *testing.T, core ...int) {
	t.Helper()
	if a := p.check(t, api.MaxFuel); a.kind != api.Unknown {
		p.isUnsat(t, core...)
	}
}

// A variable is twice one, and twice another one and 1.
func TestEvenAndOdd(t *testing.T) {
	p := problem{vars: 3}.with(sum(1, 0, -2, 1), 0, 0).with(sum(1, 0, -2, 2), 1, 1)
	p.mayClash(t, 0, 1, 2, 3)
	for low := int64(-9); low <= 9; low += 3 {
		for width := range int64(9) {
			p.with(sum(1, 0), low, low+width).clashes(t)
		}
	}
	p.of(p.bounds[:3]...).isNot(t, api.Unsat)
	p.of(p.bounds[1:]...).isNot(t, api.Unsat)
}

// Variables that stand in no row, and in rows without bounds, are numbers, too.
func TestVariablesOfNoRow(t *testing.T) {
	p := problem{6, []api.Linear{sum(2, 1, 3, 4), sum(5, 2), sum(1, 1), sum(1, 4)}, nil}
	p.of(least(0, 7), most(0, 7)).isSat(t)
	p.of(least(0, 7), most(0, 7), least(2, 3), least(3, 1)).clashes(t)
	p.of(least(0, 7), most(0, 7), least(2, 2), least(3, 1)).isSat(t)
}

// Nets of small sums that are to be just so much: such are met by whole numbers if they are by fractions.
func TestAllOfTwoVariables(t *testing.T) {
	kinds := map[int]int{}
	for a := int64(-5); a <= 5; a++ {
		for b := int64(-5); b <= 5; b++ {
			for val := int64(-4); val <= 9; val++ {
				p := box([2]int64{0, 2}, [2]int64{-1, 1}).with(dense(a, b), val, val)
				kinds[p.solve(t).kind]++
				p = box([2]int64{-1, 3}, [2]int64{-2, 2}).with(dense(a, b), val, val+1).with(dense(b, -a), 1, 3)
				kinds[p.solve(t).kind]++
			}
		}
	}
	if kinds[api.Sat] < 400 || kinds[api.Unsat] < 400 {
		t.Fatalf("too few of a kind: %v", kinds)
	}
}

// Sums of two variables that nothing keeps: right, if they are answered, and most are.
func TestAllSumsWithoutEnd(t *testing.T) {
	known := 0
	for a := int64(-4); a <= 4; a++ {
		for b := int64(-4); b <= 4; b++ {
			for val := int64(-6); val <= 6; val++ {
				p := problem{vars: 2}.with(dense(a, b), val, val)
				if a := p.check(t, 20000); a.kind != api.Unknown {
					known++
				}
			}
		}
	}
	if known < 700 {
		t.Fatalf("only %d of %d are answered", known, 81*13)
	}
}

func TestAnyProblems(t *testing.T) {
	r := chance()
	kinds := map[int]int{}
	for range 4000 {
		kinds[anyProblem(r, r.IntN(3), 1+r.IntN(6), r.IntN(9)).check(t, 20000).kind]++
	}
	for range 1500 {
		kinds[anyProblem(r, 3+r.IntN(2), 2+r.IntN(5), 2+r.IntN(8)).check(t, 20000).kind]++
	}
	if kinds[api.Sat] < 1000 || kinds[api.Unsat] < 1000 {
		t.Fatalf("too few of a kind: %v", kinds)
	}
}

// Boxes that are so small that it can't be branched more than 64 times within one another: each side of a
// branch leaves a variable less room.
func TestAnyBoxes(t *testing.T) {
	r := chance()
	kinds := map[int]int{}
	for _, kind := range []struct{ vars, wide, rows int }{{1, 60, 2}, {2, 20, 3}, {3, 6, 3}, {4, 3, 3}, {6, 1, 4}} {
		for range 400 {
			var sides [][2]int64
			var middle []*big.Int
			for range kind.vars {
				low, wide := anyNear(r, 9), int64(r.IntN(kind.wide+1))
				sides = append(sides, [2]int64{low, low + wide})
				middle = append(middle, big.NewInt(low+wide/2))
			}
			p := box(sides...)
			for range 1 + r.IntN(kind.rows) {
				l := anyRow(r, kind.vars, 7)
				val := come(l, middle) + anyNear(r, 2)
				p = p.with(l, val, val+int64(r.IntN(3)))
			}
			kinds[p.shuffled(r).solve(t).kind]++
		}
	}
	if kinds[api.Sat] < 300 || kinds[api.Unsat] < 300 {
		t.Fatalf("too few of a kind: %v", kinds)
	}
}

// Some of these numbers together are just so much, or aren't: that takes many branches.
func TestSumsOfSome(t *testing.T) {
	weights := []int64{12, 17, 23, 31, 44, 59}
	reached := map[int64]bool{}
	for some := range 1 << len(weights) {
		total := int64(0)
		for i, w := range weights {
			if some>>i&1 == 1 {
				total += w
			}
		}
		reached[total] = true
	}
	p := box([2]int64{0, 1}, [2]int64{0, 1}, [2]int64{0, 1}, [2]int64{0, 1}, [2]int64{0, 1}, [2]int64{0, 1})
	for total := int64(-1); total <= 187; total++ {
		if a := p.with(dense(weights...), total, total).solve(t); (a.kind == api.Sat) != reached[total] {
			t.Fatalf("some numbers of %v are %d together: %d", weights, total, a.kind)
		}
	}
}

// Where numbers are chosen first, and bounds such that they hold by them, it isn't Unsat.
func TestChosenFirst(t *testing.T) {
	r := chance()
	sat := 0
	for _, vars := range []int{1, 2, 3, 5, 8, 12} {
		for range 60 {
			var values []*big.Int
			for range vars {
				values = append(values, big.NewInt(anyNear(r, 20)))
			}
			p := problem{vars: vars}
			for range vars {
				l := anyRow(r, vars, 4)
				val := come(l, values)
				p = p.with(l, val-int64(r.IntN(2)), val+int64(r.IntN(2)))
			}
			a := p.ask(t, 5000)
			if a.kind == api.Unsat {
				t.Fatalf("Solve of %v: Unsat by %v, but %v were chosen first", p, a.core, values)
			}
			if a.kind == api.Sat {
				sat++
			}
		}
	}
	if sat < 200 {
		t.Fatalf("only %d of 360 are answered", sat)
	}
}

// The same call is answered alike again, and what is answered doesn't hang on what was asked between.
func TestAskedAgain(t *testing.T) {
	r := chance()
	for range 100 {
		p := anyProblem(r, 1+r.IntN(5), 2+r.IntN(6), 1+r.IntN(10))
		a := p.ask(t, 5000)
		anyProblem(r, 3, 4, 5).ask(t, 5000)
		for range 4 {
			if b := p.ask(t, 5000); !isSame(a, b) {
				t.Fatalf("Solve of %v: first %v, then %v", p, a, b)
			}
		}
	}
}
