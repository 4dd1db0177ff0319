package tableau_test

import (
	"math/big"
	"slices"
	"testing"

	"elenchus/api"
)

// round is a problem on which a search by other rules than the document's goes round.
type round struct {
	name        string
	row, column rule
	problem
}

// bounded is a problem of rows, by how many times each variable is taken; the last number is the bound.
func bounded(vars int, uppers, lowers [][]int64) problem {
	p := problem{vars: vars}
	for i, l := range slices.Concat(uppers, lowers) {
		p.rows = append(p.rows, dense(l[:vars]...))
		p.bounds = append(p.bounds, api.Bound{Row: i, Upper: i < len(uppers), Val: small(l[vars])})
	}
	return p
}

// shuffled is a problem whose rows stand in another order, each with its bounds; order tells which one comes.
func (p problem) shuffled(order []int) problem {
	out := problem{vars: p.vars, bounds: slices.Clone(p.bounds)}
	for _, row := range order {
		out.rows = append(out.rows, p.rows[row])
	}
	for i, b := range p.bounds {
		out.bounds[i].Row = slices.Index(order, b.Row)
	}
	return out
}

// rounds are such problems: some can be solved, some can't.
func rounds() []round {
	p := bounded(3, [][]int64{{2, 3, 1, 3}, {-1, 2, -3, -3}, {3, -3, 2, -4}, {-1, -3, -2, -4}, {-1, 3, 0, -3}}, [][]int64{{-1, 3, 1, -2}})
	q := bounded(4, [][]int64{{0, 2, 2, -3, 3}, {-2, -3, 1, -3, 1}, {0, -1, -3, -3, 4}, {-1, -3, 3, -2, -4}, {1, -3, -3, -2, -2}, {-3, -3, -1, -3, 1}}, [][]int64{{-3, -3, 1, -1, 4}})
	u := bounded(3, [][]int64{{-3, -2, 3, 0}, {1, -2, -1, -2}, {2, -2, 0, 4}, {-2, -3, -3, -3}, {-3, -3, -3, -1}, {-3, 2, -3, 3}}, [][]int64{{1, -3, 0, 1}})
	v := bounded(4, [][]int64{{1, 1, -1, 1, 0}, {0, -1, 0, 1, -2}, {1, 0, 1, 0, -2}, {-1, 0, 0, 0, 0}}, [][]int64{{1, 1, -1, 1, -1}, {0, -1, 0, -1, -1}, {0, 0, -1, 1, 3}, {-1, 0, -1, 1, 1}, {-1, -1, 0, 0, -2}, {0, 1, -1, 0, -2}})
	w := bounded(2, [][]int64{{2, 0, 0}, {1, -3, 3}, {-2, 3, 0}, {-1, 2, -3}}, [][]int64{{-3, 1, 2}, {0, 2, 2}, {-2, 1, 2}})
	x := bounded(3, [][]int64{{0, 3, 1, -1}, {-2, -2, -1, -3}, {-3, -1, 0, -2}, {-2, 0, -3, -3}, {2, -1, 3, 2}}, [][]int64{{1, 2, -2, 3}, {2, 1, -2, 3}, {-1, 2, -1, 1}, {2, -3, -1, 2}, {1, 1, -1, -1}})
	y := bounded(3, [][]int64{{2, 1, -2, -1}, {-1, -2, 0, -1}, {-2, 2, 2, -2}, {-1, -1, -2, 0}, {-1, -1, 0, -1}}, [][]int64{{0, 2, -2, 3}, {2, 1, -1, 0}, {1, -2, -1, 0}})
	z := bounded(4, [][]int64{{-2, -1, 1, -2, 1}, {-2, 2, -1, 1, 1}, {-2, 2, 1, 0, 1}}, [][]int64{{2, -1, 1, 2, 0}, {1, -2, -1, -1, 2}, {2, 2, -1, -1, -1}, {1, 1, -1, 1, 3}, {-2, -2, -1, 1, 3}, {2, 1, 2, 0, -2}})
	return []round{
		{"first row, last column", first, last, p.shuffled([]int{0, 1, 5, 2, 3, 4})},
		{"first row, last column", first, last, q.shuffled([]int{0, 1, 2, 3, 4, 6, 5})},
		{"last row, first column", last, first, u.shuffled([]int{0, 1, 6, 2, 3, 4, 5})},
		{"last row, first column", last, first, v.shuffled([]int{4, 0, 1, 5, 6, 2, 7, 3, 8, 9})},
		{"nearest row, last column", nearest, last, w.shuffled([]int{0, 4, 1, 2, 5, 3, 6})},
		{"nearest row, first column", nearest, first, x.shuffled([]int{0, 5, 6, 7, 1, 8, 2, 3, 4, 9})},
		{"a row in the middle, first column", middle, first, y.shuffled([]int{0, 5, 1, 6, 2, 7, 3, 4})},
		{"first row, a column in the middle", first, middle, z.shuffled([]int{3, 0, 1, 4, 5, 6, 7, 2, 8})},
	}
}

func middle(_ *walk, among []int) int {
	return among[len(among)/2]
}

// A search without the document's rule goes round on these problems; with it, it comes to an end.
func TestSearchThatWouldGoRound(t *testing.T) {
	for i, c := range rounds() {
		if !c.goesRound(c.row, c.column) {
			t.Fatalf("the problem %d: %s doesn't go round", i, c.name)
		}
		c.solve(t)
	}
}

// So it does where these problems' rows stand in other orders, and where their numbers are others.
func TestProblemsLikeThose(t *testing.T) {
	r := chance()
	for _, c := range rounds() {
		for range 150 {
			p := c.shuffled(r.Perm(len(c.rows)))
			if r.IntN(2) == 0 {
				i := r.IntN(len(p.bounds))
				p.bounds[i].Val = told(new(big.Int).Add(meant(p.bounds[i].Val), big.NewInt(int64(r.IntN(5)-2))))
			}
			if r.IntN(2) == 0 {
				p.bounds = append(p.bounds, api.Bound{Row: r.IntN(len(p.rows)), Upper: r.IntN(2) == 0, Val: anySmall(r)})
			}
			p.solve(t)
		}
	}
}

// Of each that may be exchanged the one with the least number is; a variable's is less than a row's.
func TestLeastNumberIsExchanged(t *testing.T) {
	r := chance()
	for _, c := range rounds() {
		checkSteps(t, c.problem)
	}
	for range 1500 {
		p := anyProblem(r, 1+r.IntN(5), 3+r.IntN(8), 0)
		for row := range p.rows {
			p.bounds = append(p.bounds, api.Bound{Row: row, Upper: r.IntN(2) == 0, Val: anySmall(r)})
		}
		checkSteps(t, p)
	}
}

// checkSteps fails unless as much is used as another search by Bland's rule exchanges.
func checkSteps(t *testing.T, p problem) {
	t.Helper()
	steps, kind := p.steps(t)
	if a := p.enough(t); a.used != steps || a.kind != kind {
		t.Fatalf("Solve of %v: %d, %d was used, not %d, %d", p, a.kind, a.used, kind, steps)
	}
}

// Problems on which searches for what is best go round by well-known rules (Beale's, Kuhn's, and one of
// Marshall and Suurballe's), as bounds: what is to be least is at most a number, and may be so or not.
func TestWellKnownRounds(t *testing.T) {
	signs := func(p problem, vars int) problem {
		for v := range vars {
			p.rows = append(p.rows, sum(1, int64(v)))
			p.bounds = append(p.bounds, least(len(p.rows)-1, 0))
		}
		return p
	}
	beale := signs(bounded(4, [][]int64{{25, -6000, -4, 900, 0}, {25, -4500, -1, 150, 0}, {0, 0, 1, 0, 1}}, nil), 4)
	checkBest(t, beale, dense(-75, 15000, -2, 600), -5)
	kuhn := signs(bounded(4, [][]int64{{-2, -9, 1, 9, 0}, {1, 3, -1, -6, 0}, {2, 3, -1, -12, 2}}, nil), 4)
	checkBest(t, kuhn, dense(-2, -3, 1, 12), -2)
	marshall := signs(bounded(4, [][]int64{{1, -11, -5, 18, 0}, {1, -3, -1, 2, 0}, {1, 0, 0, 0, 1}}, nil), 4)
	checkBest(t, marshall, dense(-10, 57, 9, 24), -1)
}

// checkBest fails unless a row may be at most a number, and not less than that.
func checkBest(t *testing.T, p problem, row api.Linear, best int64) {
	t.Helper()
	p.rows = append(p.rows, row)
	n := len(p.rows) - 1
	r := chance()
	for val := best - 2; val <= best+2; val++ {
		q := p.of(append(slices.Clone(p.bounds), most(n, val))...)
		if a := q.solve(t); (a.kind == api.Sat) != (val >= best) {
			t.Fatalf("Solve of %v: %d, but %d is the best", q, a.kind, best)
		}
		for range 20 {
			q.shuffled(r.Perm(len(q.rows))).solve(t)
		}
	}
}

// Rows of which each next one leans on all ahead (Klee's and Minty's): a search may go a long way.
func TestLongWays(t *testing.T) {
	for n := 1; n <= 9; n++ {
		p := problem{vars: n}
		for row := range n {
			coefs := make([]int64, n)
			for v := range row {
				coefs[v] = 1 << (row - v + 1)
			}
			coefs[row] = 1
			top := int64(1)
			for range row {
				top *= 5
			}
			p.rows = append(p.rows, dense(coefs...), sum(1, int64(row)))
			p.bounds = append(p.bounds, most(2*row, 5*top), least(2*row+1, 0))
		}
		goal := make([]int64, n)
		best := int64(1)
		for v := range n {
			goal[v] = 1 << (n - 1 - v)
			best *= 5
		}
		p.rows = append(p.rows, dense(goal...))
		for val, want := range map[int64]int{best: api.Sat, best + 1: api.Unsat} {
			q := p.of(append(slices.Clone(p.bounds), least(2*n, val))...)
			if a := q.enough(t); a.kind != want {
				t.Fatalf("of %d variables: %d, %v", n, a.kind, a.core)
			}
		}
	}
}

// Differences of variables in a ring: each is less than the next one, which can't be; they can, if one is let go.
func TestRings(t *testing.T) {
	for n := 2; n <= 60; n++ {
		p := problem{vars: n}
		var all []int
		for v := range n {
			next := (v + 1) % n
			l := sum(1, int64(v), -1, int64(next))
			if next < v {
				l = sum(-1, int64(next), 1, int64(v))
			}
			p.rows = append(p.rows, l)
			p.bounds = append(p.bounds, most(v, -1))
			all = append(all, v)
		}
		if a := p.enough(t); a.kind != api.Unsat || !slices.Equal(a.core, all) {
			t.Fatalf("a ring of %d: %d, %v", n, a.kind, a.core)
		}
		p.bounds[n/2] = most(n/2, int64(n-1))
		if a := p.enough(t); a.kind != api.Sat {
			t.Fatalf("a ring of %d that can be: %d, %v", n, a.kind, a.core)
		}
		p.bounds[n/2] = most(n/2, int64(n-2))
		if a := p.enough(t); a.kind != api.Unsat || !slices.Equal(a.core, all) {
			t.Fatalf("a ring of %d that can't be: %d, %v", n, a.kind, a.core)
		}
	}
}

// Degenerate problems: many rows that come to 0 at one place, which is the only one, or by one bound isn't one.
func TestManyRowsThroughOnePlace(t *testing.T) {
	r := chance()
	for range 400 {
		vars := 2 + r.IntN(3)
		p := problem{vars: vars}
		for row := range 6 + r.IntN(5) {
			p.rows = append(p.rows, anyRow(r, vars, anySmall))
			p.bounds = append(p.bounds, api.Bound{Row: row, Upper: r.IntN(2) == 0})
		}
		p.solve(t)
		p.bounds[r.IntN(len(p.bounds))].Val = small(anyOf[int64](r, 1, -1))
		p.solve(t)
		if vars < 4 {
			p.bounds[r.IntN(len(p.bounds))].Val = small(anyOf[int64](r, 1, -1))
			p.solve(t)
		}
	}
}
