package clauses_test

import (
	"math/big"
	"slices"
	"testing"

	"elenchus/api"
	"elenchus/clauses"
	"elenchus/value"
)

// asking is a coder, its rows, and what it was asked.
type asking struct {
	t     *testing.T
	r     api.Terms
	c     *clauses.Coder
	terms []int        // of Lit
	sums  []api.Linear // of Most
	lits  []int        // Most's answers
}

// ask asks Lit of some terms of rows that may be, one behind the other.
func ask(t *testing.T, r api.Terms, terms ...int) *asking {
	t.Helper()
	a := &asking{t: t, r: r, c: coder(t, r)}
	for _, n := range terms {
		a.lit(n)
	}
	return a
}

func (a *asking) lit(n int) int {
	a.t.Helper()
	a.terms = append(a.terms, n)
	return lit(a.t, a.c, n)
}

func (a *asking) most(l api.Linear) int {
	a.t.Helper()
	out := most(a.t, a.c, l)
	a.sums, a.lits = append(a.sums, l), append(a.lits, out)
	return out
}

// coded is all that was made. It fails unless that has the form that the document asks for.
func (a *asking) coded() api.Coded {
	a.t.Helper()
	d := a.c.Coded()
	checkForm(a.t, a.r, d)
	if len(d.Roots) != len(a.terms) {
		a.t.Fatalf("of %d terms there are %d roots", len(a.terms), len(d.Roots))
	}
	return d
}

// truth is a literal's truth by the variables'.
func truth(truths []bool, l int) bool {
	if l < 0 {
		return !truths[-l-1]
	}
	return truths[l-1]
}

func allHold(list [][]int, truths []bool) bool {
	for _, clause := range list {
		if !slices.ContainsFunc(clause, func(l int) bool { return truth(truths, l) }) {
			return false
		}
	}
	return true
}

// valueOf is what a sum comes to by terms' values.
func valueOf(l api.Linear, values []*big.Int) *big.Int {
	out := new(big.Int).Set(meant(l.Const))
	for _, p := range l.Parts {
		out.Add(out, new(big.Int).Mul(meant(p.Coef), values[p.Term]))
	}
	return out
}

// saysSo is whether what a variable means holds, by terms' values.
func saysSo(d api.Coded, m api.Mean, values []*big.Int) bool {
	switch {
	case m.Term >= 0:
		return values[m.Term].Sign() != 0
	case m.Atom.Row >= 0:
		return valueOf(d.Rows[m.Atom.Row], values).Cmp(meant(m.Atom.Val)) <= 0
	}
	return true
}

// checkAnswers fails unless each root's literal, and each of Most's, has the truth that it stands for.
func (a *asking) checkAnswers(d api.Coded, truths []bool, values []*big.Int) {
	a.t.Helper()
	for i, n := range a.terms {
		if want := values[n].Sign() != 0; truth(truths, d.Roots[i]) != want {
			a.t.Fatalf("%.3000q by the values %v: the root %d of the term %d is %v", writtenRows(a.r), values, d.Roots[i], n, !want)
		}
	}
	for i, l := range a.sums {
		if want := valueOf(l, values).Sign() <= 0; truth(truths, a.lits[i]) != want {
			a.t.Fatalf("%.3000q by the values %v: Most's answer %d of %q is %v", writtenRows(a.r), values, a.lits[i], writtenSum(l), !want)
		}
	}
}

// valuesBy are all terms' values by a model.
func (a *asking) valuesBy(m api.Model) []*big.Int {
	a.t.Helper()
	list, err := value.Eval(a.r, m)
	if err != api.OK {
		a.t.Fatalf("Eval of %.3000q: error %d", writtenRows(a.r), err)
	}
	var out []*big.Int
	for _, v := range list {
		out = append(out, meant(v))
	}
	return out
}

// checkModel fails unless by a model, every variable being what it means, all clauses hold, and the answers have
// the truths that they stand for (P11.2); nor if another truth of one that means no OpApp and no atom makes no
// clause fail (P11.5).
func (a *asking) checkModel(d api.Coded, m api.Model) {
	a.t.Helper()
	values := a.valuesBy(m)
	var truths []bool
	for _, means := range d.Means {
		truths = append(truths, saysSo(d, means, values))
	}
	if !allHold(d.Clauses, truths) {
		a.t.Fatalf("%.3000q by the values %v: not all of %v hold, where every variable is what it means: %v", writtenRows(a.r), values, d.Clauses, truths)
	}
	a.checkAnswers(d, truths, values)
	for v, means := range d.Means {
		if a.isFree(means) {
			continue
		}
		truths[v] = !truths[v]
		if allHold(d.Clauses, truths) {
			a.t.Fatalf("%.3000q by the values %v: the variable %d isn't held by %v", writtenRows(a.r), values, v+1, d.Clauses)
		}
		truths[v] = !truths[v]
	}
}

// isFree asks whether what is meant is an OpApp or an atom.
func (a *asking) isFree(m api.Mean) bool {
	return m.Atom.Row >= 0 || m.Term >= 0 && a.r.Terms[m.Term].Op == api.OpApp
}

// rowsHave asks whether a row has a term.
func rowsHave(d api.Coded, n int) bool {
	return slices.ContainsFunc(d.Rows, func(l api.Linear) bool {
		return slices.ContainsFunc(l.Parts, func(p api.Part) bool { return p.Term == n })
	})
}

// given are terms' values where every OpApp has what is given, and each OpIte of Whole that a row has, too; and
// whether each of these has what its parts make.
func (a *asking) given(d api.Coded, give func(n int, made *big.Int) *big.Int) ([]*big.Int, bool) {
	var out []*big.Int
	fits := true
	for n, t := range a.r.Terms {
		v := a.made(t, out)
		switch {
		case t.Op == api.OpApp:
			v = give(n, nil)
		case t.Op == api.OpIte && sorts(a.r)[n] == api.Whole && rowsHave(d, n):
			made := v
			v = give(n, made)
			fits = fits && v.Cmp(made) == 0
		}
		out = append(out, v)
	}
	return out, fits
}

func ofTruth(holds bool) *big.Int {
	if holds {
		return big.NewInt(1)
	}
	return new(big.Int)
}

// made is what a term's parts make, in another way than layer 5's: OpApp makes nothing.
func (a *asking) made(t api.Term, values []*big.Int) *big.Int {
	part := func(i int) *big.Int { return values[t.Args[i]] }
	total, yes := new(big.Int), 0
	for i := range t.Args {
		total.Add(total, part(i))
		yes += part(i).Sign()
	}
	switch t.Op {
	case api.OpTrue:
		return ofTruth(true)
	case api.OpNum:
		return meant(t.Num)
	case api.OpNot:
		return ofTruth(yes == 0)
	case api.OpAnd:
		return ofTruth(yes == len(t.Args))
	case api.OpOr:
		return ofTruth(yes > 0)
	case api.OpIte:
		return part(2 - part(0).Sign())
	case api.OpIff, api.OpEq:
		return ofTruth(part(0).Cmp(part(1)) == 0)
	case api.OpLe:
		return ofTruth(part(0).Cmp(part(1)) <= 0)
	case api.OpAdd:
		return total
	case api.OpMul:
		return total.Mul(total, meant(t.Num))
	}
	return ofTruth(false)
}

// checkGiven fails if numbers and truths are given, and other variables can have truths by which all clauses hold,
// and an answer doesn't have the truth that it stands for, or an OpIte that a row has hasn't the number that its
// parts make (P11.3). It answers whether clauses can hold, and whether all OpItes have what their parts make.
func (a *asking) checkGiven(d api.Coded, give func(n int, made *big.Int) *big.Int) (bool, bool) {
	a.t.Helper()
	values, fits := a.given(d, give)
	truths := make([]bool, d.Vars)
	var others []int
	for v, m := range d.Means {
		if a.isFree(m) {
			truths[v] = saysSo(d, m, values)
		} else {
			others = append(others, v+1)
		}
	}
	found := false
	eachTruths(d.Clauses, truths, others, func() {
		a.t.Helper()
		found = true
		if !fits {
			a.t.Fatalf("%.3000q by %v: an OpIte of a row hasn't what its parts make, and all of %v hold by %v", writtenRows(a.r), values, d.Clauses, truths)
		}
		a.checkAnswers(d, truths, values)
	})
	return found, fits
}

// eachTruths hands on all truths of some variables by which clauses hold.
func eachTruths(list [][]int, truths []bool, open []int, take func()) {
	canHold := func(clause []int) bool {
		return slices.ContainsFunc(clause, func(l int) bool { return truth(truths, l) || slices.Contains(open, max(l, -l)) })
	}
	for _, clause := range list {
		if !canHold(clause) {
			return
		}
	}
	if len(open) == 0 {
		take()
		return
	}
	for _, holds := range []bool{false, true} {
		truths[open[0]-1] = holds
		eachTruths(list, truths, open[1:], take)
	}
}
