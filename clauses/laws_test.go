package clauses_test

import (
	"math"
	"math/big"
	"math/rand/v2"
	"slices"
	"strconv"
	"testing"

	"elenchus/api"
	"elenchus/pool"
)

// chance is the same in each run.
func chance() *rand.Rand {
	return rand.New(rand.NewPCG(11, 30))
}

func anyOf[T any](r *rand.Rand, items ...T) T {
	return items[r.IntN(len(items))]
}

// near is a number near to 0.
func near(r *rand.Rand) *big.Int {
	return big.NewInt(int64(r.IntN(7) - 3))
}

// anyInt is in any form; mostly it is near to 0, so that rows, atoms and numbers come up again.
func anyInt(r *rand.Rand) api.Int {
	v := near(r)
	if r.IntN(12) == 0 {
		great := api.Int{Neg: r.IntN(2) == 0}
		for range r.IntN(4) {
			great.Abs = append(great.Abs, anyOf[uint64](r, 0, 0, 1, 5, math.MaxUint64))
		}
		v = meant(great)
	}
	return anyOf(r, formsOf(told(v))...)
}

// grown are rows that grow, and their terms' numbers by their sorts.
type grown struct {
	r    *rand.Rand
	p    *pool.Pool
	syms []api.Sym
	of   map[int][]int
}

// grow begins with two symbols without parts of each sort, and at most so many others.
func grow(t *testing.T, r *rand.Rand, others int) grown {
	t.Helper()
	var syms []api.Sym
	for i := range 4 + r.IntN(others+1) {
		arity := 0
		if i > 3 {
			arity = 1 + r.IntN(2)
		}
		syms = append(syms, api.Sym{Name: "s" + strconv.Itoa(i), Arity: arity, Sort: 1 + i%2})
	}
	p, err := pool.New(syms)
	if err != api.OK {
		t.Fatalf("New of %v: error %d", syms, err)
	}
	return grown{r, p, syms, map[int][]int{}}
}

// anyTerm has parts of the right sorts; where there are none yet, it has no parts.
func (g grown) anyTerm() api.Term {
	op := anyOf(g.r, 1, 2, 3, 4, 4, 5, 6, 7, 8, 9, 9, 9, 10, 10, 11, 11, 12, 12, 13)
	out := api.Term{Op: op}
	switch op {
	case api.OpNum:
		out.Num = anyInt(g.r)
	case api.OpApp:
		out.Sym = g.r.IntN(len(g.syms))
		out.Args = g.parts(g.syms[out.Sym].Arity, api.Whole)
	case api.OpNot:
		out.Args = g.parts(1, api.Bool)
	case api.OpAnd, api.OpOr:
		out.Args = g.parts(2+g.r.IntN(3), api.Bool)
	case api.OpIff:
		out.Args = g.parts(2, api.Bool)
	case api.OpIte:
		out.Args = append(g.parts(1, api.Bool), g.parts(2, anyOf(g.r, api.Bool, api.Whole, api.Whole))...)
	case api.OpEq, api.OpLe:
		out.Args = g.parts(2, api.Whole)
	case api.OpAdd:
		out.Args = g.parts(2+g.r.IntN(3), api.Whole)
	case api.OpMul:
		out.Num, out.Args = anyInt(g.r), g.parts(1, api.Whole)
	}
	return out
}

// parts are of terms that came late mostly, so that terms stand within terms.
func (g grown) parts(count, sort int) []int {
	var out []int
	for range count {
		list := g.of[sort]
		if len(list) == 0 {
			return nil
		}
		out = append(out, anyOf(g.r, anyOf(g.r, list...), list[max(0, len(list)-1-g.r.IntN(3))]))
	}
	return out
}

// rows are some terms; what may not be is left out.
func (g grown) rows(count int) api.Terms {
	for range count {
		n, err := g.p.Make(g.anyTerm())
		if err != api.OK {
			continue
		}
		if sort, _ := g.p.Sort(n); !slices.Contains(g.of[sort], n) {
			g.of[sort] = append(g.of[sort], n)
		}
	}
	return g.p.Rows()
}

// anySum is one whose terms may be.
func (g grown) anySum(r api.Terms) api.Linear {
	out := api.Linear{Const: anyInt(g.r)}
	for n, may := range partsOf(r) {
		if v := anyInt(g.r); may && meant(v).Sign() != 0 && len(out.Parts) < 3 && g.r.IntN(2) == 0 {
			out.Parts = append(out.Parts, api.Part{Coef: v, Term: n})
		}
	}
	return out
}

func (g grown) model() api.Model {
	var m api.Model
	for _, s := range g.syms {
		t := api.Table{Else: anyInt(g.r)}
		for range g.r.IntN(6) {
			line := api.Row{Val: anyInt(g.r)}
			for range s.Arity {
				line.Args = append(line.Args, anyInt(g.r))
			}
			t.Rows = append(t.Rows, line)
		}
		m.Tables = append(m.Tables, t)
	}
	return m
}

// asked is a coder of rows that was asked some terms and sums.
func (g grown) asked(t *testing.T, r api.Terms, count int) *asking {
	t.Helper()
	a := ask(t, r)
	for range count {
		if list := g.of[api.Bool]; len(list) > 0 && g.r.IntN(3) > 0 {
			a.lit(anyOf(g.r, anyOf(g.r, list...), list[len(list)-1]))
		} else {
			a.most(g.anySum(r))
		}
	}
	return a
}

// Whatever rows and models are made, with every variable being what it means all clauses hold, answers have the
// truths that they stand for, and each variable that isn't free is held.
func TestAnyModels(t *testing.T) {
	r := chance()
	chosen := 0
	for range 1000 {
		g := grow(t, r, 3)
		a := g.asked(t, g.rows(1+r.IntN(60)), 1+r.IntN(8))
		d := a.coded()
		for range 6 {
			a.checkModel(d, g.model())
		}
		for n, what := range a.r.Terms {
			if what.Op == api.OpIte && rowsHave(d, n) {
				chosen++
			}
		}
	}
	if chosen < 1000 {
		t.Fatalf("of all rows made just %d had an OpIte", chosen)
	}
}

// counts are how often something came of numbers and truths that were given.
type counts struct {
	held, failed, ites int
}

// checkAnyGiven checks numbers near to 0 and truths that are given at will; an OpIte that a row has mostly has what
// its parts make.
func (g grown) checkAnyGiven(a *asking, d api.Coded, n *counts) {
	a.t.Helper()
	stray := g.r.IntN(2) * 4
	ites := 0
	found, fits := a.checkGiven(d, func(n int, made *big.Int) *big.Int {
		switch {
		case sorts(a.r)[n] == api.Bool:
			return big.NewInt(int64(g.r.IntN(2)))
		case made == nil:
			return near(g.r)
		}
		ites++
		if stray > 0 && g.r.IntN(stray) == 0 {
			return near(g.r)
		}
		return made
	})
	switch {
	case found:
		n.held++
		n.ites += min(ites, 1)
	case !fits:
		n.failed++
	case len(g.syms) == 4: // a symbol without parts can tell whatever is given
		a.t.Fatalf("%.3000q: no truths make clauses hold: %v", writtenRows(a.r), d.Clauses)
	}
}

// Numbers and truths may be given at will: where other variables make all clauses hold, answers have the truths
// that they stand for, and OpItes of rows the numbers that their parts make.
func TestAnyNumbersAndTruths(t *testing.T) {
	r := chance()
	var n counts
	for range 1500 {
		g := grow(t, r, anyOf(r, 0, 3))
		a := g.asked(t, g.rows(1+r.IntN(26)), 1+r.IntN(4))
		d := a.coded()
		for range 8 {
			g.checkAnyGiven(a, d, &n)
		}
	}
	if n.held < 5000 || n.failed < 200 || n.ites < 1000 {
		t.Fatalf("clauses held %d times, %d times of them with OpItes in rows, and didn't %d times, since one hadn't what its parts make", n.held, n.ites, n.failed)
	}
}

// What is asked again is answered likewise, and is new as roots only.
func TestAnythingAskedAgain(t *testing.T) {
	r := chance()
	for range 200 {
		g := grow(t, r, 3)
		g.asked(t, g.rows(1+r.IntN(60)), 1+r.IntN(12)).checkAgain()
	}
}

// Coders of the same rows that are asked the same by turns have the same; one that is asked something else has its own.
func TestCodersByTurns(t *testing.T) {
	r := chance()
	for range 100 {
		g := grow(t, r, 3)
		rows := g.rows(1 + r.IntN(60))
		x, y, z := ask(t, rows), ask(t, rows), ask(t, g.rows(20))
		for range 10 {
			if list := g.of[api.Bool]; len(list) > 0 && r.IntN(2) == 0 {
				list = slices.DeleteFunc(slices.Clone(list), func(n int) bool { return n >= len(rows.Terms) })
				if len(list) == 0 {
					continue
				}
				n := anyOf(r, list...)
				x.lit(n)
				z.lit(anyOf(r, g.of[api.Bool]...))
				y.lit(n)
			} else {
				l := g.anySum(rows)
				n := x.most(l)
				z.most(g.anySum(z.r))
				if m := y.most(l); m != n {
					t.Fatalf("Most of %q: %d, and of another coder: %d", writtenSum(l), n, m)
				}
			}
		}
		checkSame(t, x.coded(), y.coded())
		z.checkModel(z.coded(), g.model())
	}
}

// What was told of is told of likewise behind further calls: variables, clauses, rows and roots come behind those that are there.
func TestMoreIsAskedFor(t *testing.T) {
	r := chance()
	for range 200 {
		g := grow(t, r, 3)
		a := g.asked(t, g.rows(1+r.IntN(60)), 1+r.IntN(6))
		before := a.coded()
		m := g.model()
		for range 4 {
			a.most(g.anySum(a.r))
			a.checkModel(a.coded(), m)
		}
		after := a.coded()
		if !slices.Equal(after.Roots, before.Roots) || after.Vars < before.Vars {
			t.Fatalf("roots and variables were %v, %d, and are %v, %d", before.Roots, before.Vars, after.Roots, after.Vars)
		}
		for v, means := range before.Means {
			if writtenMean(means) != writtenMean(after.Means[v]) {
				t.Fatalf("the variable %d meant %v, and means %v", v+1, means, after.Means[v])
			}
		}
	}
}
