package clauses_test

import (
	"math"
	"slices"
	"strconv"
	"testing"

	"elenchus/api"
	"elenchus/clauses"
	"elenchus/pool"
)

// A coder that was asked nothing has the first variable, and what holds it.
func TestNewCoder(t *testing.T) {
	for _, r := range []api.Terms{{}, {Syms: symbols()}, {Terms: []api.Term{}}, rows(t, "p | x | le 1 1 | ite 0 1 1 | and 0 0")} {
		a := ask(t, r)
		if d := a.coded(); d.Vars != 1 || len(d.Clauses) != 1 || len(d.Rows) != 0 || len(d.Roots) != 0 {
			t.Fatalf("a new coder has %v", d)
		}
	}
}

// Rows without terms have no literals, but for sums without parts.
func TestRowsWithoutTerms(t *testing.T) {
	for _, r := range []api.Terms{{}, {Syms: symbols()}} {
		a := ask(t, r)
		for _, n := range []int{-1, 0, 1} {
			refusesLit(t, a.c, n, api.ErrArg)
			refusesMost(t, a.c, api.Linear{Parts: []api.Part{{Coef: small(1), Term: n}}}, api.ErrArg)
		}
		for _, l := range sums(t, "-1 | 0 | 1 ") {
			a.most(l)
		}
		d := a.coded()
		a.checkAnswers(d, []bool{true}, nil)
	}
}

func TestRowsThatMayNotBe(t *testing.T) {
	name := func(n int) api.Sym { return api.Sym{Name: strconv.Itoa(n), Sort: api.Whole} }
	var many []api.Sym
	for n := range api.MaxSyms + 1 {
		many = append(many, name(n))
	}
	long := api.Terms{Syms: symbols()}
	for n := range api.MaxTerms + 1 {
		long.Terms = append(long.Terms, api.Term{Op: api.OpNum, Num: small(int64(n))})
	}
	bad := func(what api.Term) api.Terms {
		r := rows(t, "true | x | p")
		r.Terms = append(r.Terms, what)
		return r
	}
	for _, c := range []struct {
		r    api.Terms
		want api.Errno
	}{
		{api.Terms{Syms: many}, api.ErrLong},
		{api.Terms{Syms: []api.Sym{{Sort: api.Bool}}}, api.ErrForm},
		{api.Terms{Syms: []api.Sym{{Name: "x"}}}, api.ErrForm},
		{api.Terms{Syms: []api.Sym{{Name: "f", Arity: api.MaxArity + 1, Sort: api.Bool}}}, api.ErrForm},
		{api.Terms{Syms: []api.Sym{name(1), name(2), name(1)}}, api.ErrName},
		{bad(api.Term{}), api.ErrForm},
		{bad(api.Term{Op: 14}), api.ErrForm},
		{bad(api.Term{Op: api.OpFalse, Num: small(1)}), api.ErrForm},
		{bad(api.Term{Op: api.OpTrue}), api.ErrForm},
		{bad(api.Term{Op: api.OpApp, Sym: 6}), api.ErrName},
		{bad(api.Term{Op: api.OpNot, Args: []int{3}}), api.ErrArg},
		{bad(api.Term{Op: api.OpNot, Args: []int{-1}}), api.ErrArg},
		{bad(api.Term{Op: api.OpAnd, Args: []int{0}}), api.ErrCount},
		{bad(api.Term{Op: api.OpAnd, Args: slices.Repeat([]int{0}, api.MaxArgs+1)}), api.ErrCount},
		{bad(api.Term{Op: api.OpApp, Sym: 4}), api.ErrCount},
		{bad(api.Term{Op: api.OpNot, Args: []int{1}}), api.ErrSort},
		{bad(api.Term{Op: api.OpIte, Args: []int{0, 1, 2}}), api.ErrSort},
		{bad(api.Term{Op: api.OpLe, Args: []int{0, 2}}), api.ErrSort},
		{long, api.ErrLong},
	} {
		if check := pool.Check(c.r); check != c.want {
			t.Fatalf("Check tells %d of what should be %d", check, c.want)
		}
		if got, err := clauses.New(c.r); got != nil || err != c.want {
			t.Errorf("New: %v, error %d, but its error is %d", got, err, c.want)
		}
	}
	long.Terms = long.Terms[:api.MaxTerms]
	refusesLit(t, coder(t, long), api.MaxTerms, api.ErrArg)
}

// Lit refuses numbers of no term, and terms of Whole; these aren't roots then.
func TestLitRefuses(t *testing.T) {
	r := rows(t, "p | x | #3 | f 1 | ite 0 1 2 | add 1 2 | *2 1 | le 1 2 | eq 4 5 | not 8")
	for _, asked := range [][]int{nil, {0}, {7, 9}} {
		a := ask(t, r, asked...)
		for _, n := range []int{-1, -2, math.MinInt, 10, 11, 4096, math.MaxInt} {
			refusesLit(t, a.c, n, api.ErrArg)
		}
		for _, n := range []int{1, 2, 3, 4, 5, 6} {
			refusesLit(t, a.c, n, api.ErrSort)
		}
		if d := a.coded(); len(d.Roots) != len(asked) {
			t.Fatalf("of %v asked there are the roots %v", asked, d.Roots)
		}
		a.lit(0)
		a.lit(9)
		a.check()
	}
}

// Most refuses what is no sum ahead of parts that may not be.
func TestMostRefuses(t *testing.T) {
	r := rows(t, "p | x | #3 | f 1 | ite 0 1 2 | add 1 2 | *2 1 | le 1 2 | ite 0 0 7 | g 1 2 | y")
	noSums := sums(t, "0*1 | 0*1 1 | 1*1 0*3 | 0*1 1*3 | 1*1 1*1 | 1*1 -1*1 | 1*3 1*1 | 1*1 2*4 1*3 | 1*1 1*3 1*3 5 | 0*0 | 1*0 1*0 | 1*3 1*-1 | 0*99 | 1*99 1*1 | 1*2 0*3 | 1*5 1*4 | 1*-1 1*-2")
	for _, zero := range formsOf(small(0)) {
		noSums = append(noSums, api.Linear{Parts: []api.Part{{Coef: zero, Term: 1}}}, api.Linear{Parts: []api.Part{{Coef: small(1), Term: 0}, {Coef: zero, Term: 1}}})
	}
	noParts := sums(t, "1*0 | 1*2 | 1*5 | 1*6 | 1*7 | 1*8 | 1*9 | -1*0 3 | 1*0 1*1 | 1*1 1*2 | 1*1 1*3 2*5 | 1*1 1*8 | 1*1 1*9 | 1*1 1*11 | 2*11 | 1*12 | 1*-1 | 1*-1 1*1 | 1*-2 1*-1 | 1*0 1*1 1*4 | 1*2 1*4 7 | W1.0*4096 W1.0")
	for _, extreme := range []int{math.MinInt, math.MaxInt} {
		noParts = append(noParts, api.Linear{Parts: []api.Part{{Coef: small(1), Term: extreme}}})
	}
	for _, asked := range [][]int{nil, {7, 8}} {
		a := ask(t, r, asked...)
		for _, l := range noSums {
			refusesMost(t, a.c, l, api.ErrForm)
		}
		for _, l := range noParts {
			refusesMost(t, a.c, l, api.ErrArg)
		}
		a.most(sum(t, "1*1 -2*3 1*4 1*10 -5"))
		a.check()
	}
}

// A nil coder has nothing, and takes nothing.
func TestNilCoder(t *testing.T) {
	var none *clauses.Coder
	for _, n := range []int{-1, 0, 1, math.MaxInt} {
		refusesLit(t, none, n, api.ErrArg)
	}
	for _, l := range sums(t, "1*0 | 1 | 0 | -1 | 1*1 2*2 W1.0") {
		refusesMost(t, none, l, api.ErrArg)
	}
	for _, l := range []api.Linear{{}, sum(t, "0*0"), sum(t, "1*1 1*0")} {
		refusesMost(t, none, l, api.ErrArg)
	}
	if d := none.Coded(); d.Vars != 0 || len(d.Clauses) != 0 || len(d.Means) != 0 || len(d.Rows) != 0 || len(d.Roots) != 0 {
		t.Fatalf("a nil coder has %v", d)
	}
}

// A coder that New didn't make is one of rows without terms.
func TestCoderWithoutNew(t *testing.T) {
	c := new(clauses.Coder)
	checkSame(t, coder(t, api.Terms{}).Coded(), c.Coded())
	refusesLit(t, c, 0, api.ErrArg)
	refusesMost(t, c, sum(t, "1*0"), api.ErrArg)
	refusesMost(t, c, sum(t, "0*0"), api.ErrForm)
	for _, l := range sums(t, "-1 | 0 | 1") {
		if want := most(t, coder(t, api.Terms{}), l); most(t, c, l) != want {
			t.Fatalf("Most of %q isn't %d", writtenSum(l), want)
		}
	}
	checkForm(t, api.Terms{}, c.Coded())
}

// Roots are what Lit answered, in order, whatever else is asked between; Most's answers aren't among them.
func TestRoots(t *testing.T) {
	a := ask(t, rows(t, "p | not 0 | x | y | le 2 3 | true | false | and 0 4"))
	var want []int
	for _, n := range []int{1, 4, 0, 7, 5, 1, 6, 4, 4} {
		want = append(want, a.lit(n))
		refusesLit(t, a.c, 2, api.ErrSort)
		refusesLit(t, a.c, 99, api.ErrArg)
		a.most(sum(t, "1*2 -1*3"))
		a.most(sum(t, "1*3 "+strconv.Itoa(n)))
		refusesMost(t, a.c, sum(t, "1*0"), api.ErrArg)
		if got := a.coded().Roots; !slices.Equal(got, want) {
			t.Fatalf("the roots are %v, but they are %v", got, want)
		}
	}
	a.check()
}
