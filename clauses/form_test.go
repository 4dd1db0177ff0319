package clauses_test

import (
	"fmt"
	"math/big"
	"slices"
	"testing"

	"elenchus/api"
)

// sorts are those of the terms of rows that may be.
func sorts(r api.Terms) []int {
	var out []int
	for _, t := range r.Terms {
		switch t.Op {
		case api.OpApp:
			out = append(out, r.Syms[t.Sym].Sort)
		case api.OpIte:
			out = append(out, out[t.Args[2]])
		case api.OpNum, api.OpAdd, api.OpMul:
			out = append(out, api.Whole)
		default:
			out = append(out, api.Bool)
		}
	}
	return out
}

// partsOf tells of each term whether a row may have it.
func partsOf(r api.Terms) []bool {
	var out []bool
	for n, sort := range sorts(r) {
		op := r.Terms[n].Op
		out = append(out, sort == api.Whole && (op == api.OpApp || op == api.OpIte))
	}
	return out
}

// checkForm fails unless all that was made is as the document asks, whatever it says: literals, clauses, means,
// rows and bounds, and nothing twice.
func checkForm(t *testing.T, r api.Terms, d api.Coded) {
	t.Helper()
	if d.Vars < 1 || len(d.Means) != d.Vars {
		t.Fatalf("there are %d variables, and %d means", d.Vars, len(d.Means))
	}
	if first := d.Means[0]; writtenMean(first) != "-1 -1:0" {
		t.Fatalf("the first variable means %v", first)
	}
	checkLits(t, d)
	checkMeans(t, r, d)
	checkRows(t, r, d)
}

func checkLits(t *testing.T, d api.Coded) {
	t.Helper()
	isNone := func(l int) bool { return l == 0 || l > d.Vars || l < -d.Vars }
	if slices.ContainsFunc(d.Roots, isNone) {
		t.Fatalf("of %d variables there are the roots %v", d.Vars, d.Roots)
	}
	known := map[string]bool{}
	for _, clause := range d.Clauses {
		if len(clause) == 0 || slices.ContainsFunc(clause, isNone) {
			t.Fatalf("of %d variables there is the clause %v", d.Vars, clause)
		}
		sorted := slices.Clone(clause)
		slices.Sort(sorted)
		if known[fmt.Sprint(sorted)] {
			t.Fatalf("there is the clause %v twice: %v", clause, d.Clauses)
		}
		known[fmt.Sprint(sorted)] = true
	}
	if !known["[1]"] {
		t.Fatalf("the first variable is held by none of %v", d.Clauses)
	}
}

func checkMeans(t *testing.T, r api.Terms, d api.Coded) {
	t.Helper()
	known := map[string]bool{}
	sorts := sorts(r)
	for _, m := range d.Means[1:] {
		isTerm := m.Term >= 0 && m.Term < len(r.Terms) && sorts[m.Term] == api.Bool && m.Atom.Row == -1 && digits(m.Atom.Val) == "0"
		isAtom := m.Term == -1 && m.Atom.Row >= 0 && m.Atom.Row < len(d.Rows) && digits(m.Atom.Val) == meant(m.Atom.Val).String()
		if !isTerm && !isAtom {
			t.Fatalf("of %d terms and %d rows a variable means %v", len(r.Terms), len(d.Rows), m)
		}
		if known[writtenMean(m)] {
			t.Fatalf("two variables mean %s", writtenMean(m))
		}
		known[writtenMean(m)] = true
	}
}

func checkRows(t *testing.T, r api.Terms, d api.Coded) {
	t.Helper()
	known := map[string]bool{}
	may := partsOf(r)
	for n, l := range d.Rows {
		divisor := new(big.Int)
		for i, p := range l.Parts {
			if p.Term < 0 || p.Term >= len(may) || !may[p.Term] || i > 0 && p.Term <= l.Parts[i-1].Term || meant(p.Coef).Sign() == 0 || digits(p.Coef) != meant(p.Coef).String() {
				t.Fatalf("a row's part is %v: %q", p, writtenSum(l))
			}
			divisor.GCD(nil, nil, divisor, new(big.Int).Abs(meant(p.Coef)))
		}
		if divisor.Cmp(big.NewInt(1)) != 0 || l.Parts[0].Coef.Neg || digits(l.Const) != "0" || known[writtenSum(l)] {
			t.Fatalf("%q is no row, or one that is there already", writtenSum(l))
		}
		known[writtenSum(l)] = true
		if !slices.ContainsFunc(d.Means, func(m api.Mean) bool { return m.Term == -1 && m.Atom.Row == n }) {
			t.Fatalf("no variable means an atom of the row %q", writtenSum(l))
		}
	}
}
