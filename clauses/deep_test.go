package clauses_test

import (
	"slices"
	"testing"

	"elenchus/api"
)

// deep are rows of as many terms as may be, each within the one behind it.
func deep(base []api.Term, next func(last int) api.Term) api.Terms {
	r := api.Terms{Syms: symbols(), Terms: slices.Clone(base)}
	for len(r.Terms) < api.MaxTerms {
		r.Terms = append(r.Terms, next(len(r.Terms)-1))
	}
	return r
}

// checkDeep asks for some terms, one behind the other, and holds the answers against two models.
func checkDeep(t *testing.T, r api.Terms, what ...int) {
	t.Helper()
	a := ask(t, r, what...)
	d := a.coded()
	for _, p := range []int64{0, 1} {
		values := a.valuesBy(constants(p, 1-p, 3, -2, 5, p))
		var truths []bool
		for _, m := range d.Means {
			truths = append(truths, saysSo(d, m, values))
		}
		if !allHold(d.Clauses, truths) {
			t.Fatalf("of %d clauses not all hold", len(d.Clauses))
		}
		a.checkAnswers(d, truths, values)
	}
}

// Terms may stand within one another as often as there may be terms.
func TestDeepTruths(t *testing.T) {
	const last = api.MaxTerms - 1
	base := rows(t, "p | q | and 0 1").Terms
	for _, next := range []func(n int) api.Term{
		func(n int) api.Term { return api.Term{Op: api.OpNot, Args: []int{n}} },
		func(n int) api.Term { return api.Term{Op: api.OpAnd, Args: []int{n, n - 1}} },
		func(n int) api.Term { return api.Term{Op: api.OpOr, Args: []int{n, 0, n - 1, n - 2}} },
		func(n int) api.Term { return api.Term{Op: api.OpIff, Args: []int{n, 1}} },
		func(n int) api.Term { return api.Term{Op: api.OpIte, Args: []int{n, n - 1, n - 2}} },
	} {
		checkDeep(t, deep(base, next), last, last-1, 2, 0)
	}
}

// OpItes of Whole may stand within one another likewise, as a branch, within a sum, and within a condition.
func TestDeepItes(t *testing.T) {
	const last = api.MaxTerms - 1
	base := rows(t, "p | x | y | ite 0 1 2").Terms
	ite := func(c, a, b int) api.Term { return api.Term{Op: api.OpIte, Args: []int{c, a, b}} }
	branches := deep(base, func(n int) api.Term { return ite(0, n, n-1) })
	branches.Terms[last] = api.Term{Op: api.OpLe, Args: []int{last - 1, 2}}
	checkDeep(t, branches, last, 0)

	within := deep(base, func(n int) api.Term {
		if n%2 == 1 {
			return api.Term{Op: api.OpAdd, Args: []int{n, 1}}
		}
		return ite(0, n, n-1)
	})
	within.Terms[last] = api.Term{Op: api.OpEq, Args: []int{last - 1, 1}}
	checkDeep(t, within, last, 0)

	conditions := deep(base, func(n int) api.Term {
		if n%2 == 1 {
			return api.Term{Op: api.OpLe, Args: []int{n, 1}}
		}
		return ite(n, n-1, 2)
	})
	if op := conditions.Terms[last-1].Op; op != api.OpLe {
		t.Fatalf("the last condition but one is of the Op %d", op)
	}
	checkDeep(t, conditions, last-1, 0)
}

// As many atoms as there may be terms, and more, of one row and of many.
func TestManyAtoms(t *testing.T) {
	r := deep(rows(t, "x | y").Terms, func(n int) api.Term {
		if n%2 == 1 {
			return api.Term{Op: api.OpNum, Num: small(int64(n))}
		}
		return api.Term{Op: api.OpEq, Args: []int{0, n}}
	})
	var all []int
	for n, what := range r.Terms {
		if what.Op == api.OpEq {
			all = append(all, n)
		}
	}
	checkDeep(t, r, all...)
}
