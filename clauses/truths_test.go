package clauses_test

import (
	"math/big"
	"slices"
	"testing"

	"elenchus/api"
)

// constants are a model by which each symbol tells one number, whatever it is asked of.
func constants(values ...int64) api.Model {
	var m api.Model
	for _, v := range values {
		m.Tables = append(m.Tables, api.Table{Else: small(v)})
	}
	return m
}

// grid hands on values of p, q, x, y, f and g: truths, and numbers near 0.
func grid(take func(values ...int64)) {
	for _, p := range []int64{0, 1} {
		for _, q := range []int64{0, 1} {
			for _, xy := range [][2]int64{{0, 0}, {-1, 3}, {3, 3}, {4, -1}} {
				take(p, q, xy[0], xy[1], xy[1]-1, 1-q)
			}
		}
	}
}

// check holds what was made against what the document asks for, by all models of the grid, and with numbers and
// truths given: with OpItes that have what their parts make clauses can hold, with others they can't.
func (a *asking) check() {
	a.t.Helper()
	d := a.coded()
	grid(func(values ...int64) {
		a.t.Helper()
		a.checkModel(d, constants(values...))
		for _, away := range []int64{0, 1, -1, 3} {
			found, fits := a.checkGiven(d, func(n int, made *big.Int) *big.Int {
				if made != nil {
					return new(big.Int).Add(made, big.NewInt(away))
				}
				return big.NewInt(values[a.r.Terms[n].Sym])
			})
			if found != fits {
				a.t.Fatalf("%.3000q by %v, OpItes of rows being %d away: that clauses can hold is %v: %v", writtenRows(a.r), values, away, found, d.Clauses)
			}
		}
	})
}

// checkLit asks for a further term of rows, by a coder of its own, and once more.
func checkLit(t *testing.T, base string, what api.Term) {
	t.Helper()
	r := rows(t, base)
	r.Terms = append(r.Terms, what)
	a := ask(t, r, len(r.Terms)-1)
	a.check()
	a.checkAgain()
}

// checkAgain fails unless all that was asked is answered likewise when it is asked again, and nothing is new but the roots.
func (a *asking) checkAgain() {
	a.t.Helper()
	before := a.coded()
	for i, l := range a.sums {
		if again := most(a.t, a.c, l); again != a.lits[i] {
			a.t.Fatalf("Most of %q: %d, and then %d", writtenSum(l), a.lits[i], again)
		}
	}
	checkSame(a.t, before, a.coded())
	for i, n := range a.terms {
		if again := lit(a.t, a.c, n); again != before.Roots[i] {
			a.t.Fatalf("Lit of %d: %d, and then %d", n, before.Roots[i], again)
		}
	}
	a.terms = slices.Concat(a.terms, a.terms)
	after := a.coded()
	if written(before) != written(after) || !slices.Equal(after.Roots, append(before.Roots, before.Roots...)) {
		a.t.Fatalf("asked again: %s, roots %v, but it was %s, roots %v", written(after), after.Roots, written(before), before.Roots)
	}
}

// base has terms of Bool, free ones, their opposites, true and false, comparisons, and some that are fixed.
const base = "true | false | p | q | not 2 | x | y | #0 | #3 | le 5 6 | le 8 5 | le 7 8 | eq 8 7"

func truthsOfBase() []int {
	return []int{0, 1, 2, 3, 4, 9, 10, 11, 12}
}

// each hands on all lists of so many of some numbers.
func each(count int, of []int, take func([]int)) {
	if count == 0 {
		take(nil)
		return
	}
	each(count-1, of, func(ahead []int) {
		for _, n := range of {
			take(append(slices.Clone(ahead), n))
		}
	})
}

// checkParts checks an Op of all parts of the base of Bool.
func checkParts(t *testing.T, op, count int) {
	t.Helper()
	each(count, truthsOfBase(), func(parts []int) {
		t.Helper()
		if op != api.OpNot || parts[0] != 2 { // that is there already
			checkLit(t, base, api.Term{Op: op, Args: parts})
		}
	})
}

func TestTerms(t *testing.T) {
	for _, n := range truthsOfBase() {
		a := ask(t, rows(t, base), n)
		a.check()
		a.checkAgain()
	}
	checkLit(t, base, api.Term{Op: api.OpApp, Sym: 5, Args: []int{5, 6}})
}

func TestNot(t *testing.T)        { checkParts(t, api.OpNot, 1) }
func TestAndOfTwo(t *testing.T)   { checkParts(t, api.OpAnd, 2) }
func TestAndOfThree(t *testing.T) { checkParts(t, api.OpAnd, 3) }
func TestOrOfTwo(t *testing.T)    { checkParts(t, api.OpOr, 2) }
func TestOrOfThree(t *testing.T)  { checkParts(t, api.OpOr, 3) }
func TestIff(t *testing.T)        { checkParts(t, api.OpIff, 2) }
func TestIte(t *testing.T)        { checkParts(t, api.OpIte, 3) }

// True is the first variable itself, and needs no more.
func TestTrue(t *testing.T) {
	a := ask(t, rows(t, "true"), 0)
	d := a.coded()
	if len(d.Roots) != 1 || d.Roots[0] != 1 || d.Vars != 1 || len(d.Clauses) != 1 || len(d.Clauses[0]) != 1 || d.Clauses[0][0] != 1 || len(d.Rows) != 0 {
		t.Fatalf("Lit of true: %v", d)
	}
	ask(t, rows(t, "false"), 0).check()
	ask(t, rows(t, "true | false"), 1, 0, 1).check()
}

// OpNot of OpNot, and so on, is a term like any other.
func TestNotsOfNots(t *testing.T) {
	for _, first := range []string{"p", "true", "false"} {
		a := ask(t, rows(t, first+" | not 0 | not 1 | not 2 | not 3"), 4, 3, 0, 1, 2)
		a.check()
		a.checkAgain()
	}
	checkLit(t, base+" | and 2 3 | not 13 | not 14", api.Term{Op: api.OpNot, Args: []int{15}})
	checkLit(t, base+" | not 9 | not 10", api.Term{Op: api.OpAnd, Args: []int{13, 14}})
	checkLit(t, base+" | not 4 | not 13", api.Term{Op: api.OpOr, Args: []int{14, 2, 13}})
}

// Parts that stand twice, or beside what they aren't, and many of them.
func TestPartsThatStandTwice(t *testing.T) {
	for _, op := range []int{api.OpAnd, api.OpOr} {
		for _, parts := range [][]int{
			{2, 2}, {2, 2, 2, 2}, {2, 3, 2, 3}, {2, 4}, {4, 2}, {2, 3, 4}, {4, 4}, {4, 2, 4, 2}, {0, 0}, {1, 1}, {0, 1, 0, 1}, {0, 2, 2}, {1, 2, 2}, {9, 9}, {9, 13}, {13, 9, 9}, {11, 11}, {12, 12},
			slices.Repeat([]int{2}, api.MaxArgs), slices.Repeat([]int{2, 3}, api.MaxArgs/2), slices.Repeat([]int{3, 0, 9, 2}, api.MaxArgs/4), slices.Repeat([]int{0}, api.MaxArgs), slices.Repeat([]int{1}, api.MaxArgs),
		} {
			checkLit(t, base+" | not 9", api.Term{Op: op, Args: parts})
		}
	}
}

// Terms within terms, asked for one by one, in whatever order.
func TestTermsWithinTerms(t *testing.T) {
	r := rows(t, "p | q | and 0 1 | or 0 1 | iff 2 3 | ite 4 2 3 | not 5 | and 6 4 2 | or 7 6 | iff 8 8 | ite 9 8 7 | x | le 11 11 | and 12 10 | not 12 | or 14 13")
	all := []int{0, 1, 2, 3, 4, 5, 6, 7, 8, 9, 10, 12, 13, 14, 15}
	for _, n := range all {
		ask(t, r, n).check()
	}
	back := slices.Clone(all)
	slices.Reverse(back)
	for _, l := range [][]int{all, back, {5, 10, 5, 2, 15, 0}} {
		a := ask(t, r, l...)
		a.check()
		a.checkAgain()
	}
}

// The parts of what was asked for are there already, but as roots.
func TestPartsAreThere(t *testing.T) {
	a := ask(t, rows(t, "p | q | and 0 1 | x | y | le 3 4 | or 2 5"), 6)
	before := a.coded()
	for _, n := range []int{0, 1, 2, 5} {
		a.lit(n)
	}
	if after := a.coded(); written(after) != written(before) || len(after.Roots) != 5 {
		t.Fatalf("parts are made again: %s, but it was %s", written(after), written(before))
	}
	a.check()
}

// Of truths alone there are no rows.
func TestTruthsNeedNoRows(t *testing.T) {
	r := rows(t, "p | q | x | y | le 2 3 | and 0 1 | or 0 5 | iff 5 6 | ite 7 0 1 | not 8 | g 2 3")
	d := ask(t, r, 0, 5, 6, 7, 8, 9, 10).coded()
	if len(d.Rows) != 0 {
		t.Fatalf("truths alone make the rows %v", d.Rows)
	}
}
