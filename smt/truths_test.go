package smt_test

import (
	"slices"
	"strconv"
	"strings"
	"testing"

	"elenchus/api"
	"elenchus/pool"
)

// checkTruths fails unless the answer of a question without numbers is known, and is as all truths, tried
// one by one, tell. By fewer conditions than clash none may be told.
func (q question) checkTruths(t *testing.T) answer {
	t.Helper()
	a := q.enough(t)
	if can := q.meet(q.all(), 0) != nil; can != (a.Kind == api.Sat) {
		t.Fatalf("Solve of %s: %d, but that it can hold is %v", q, a.Kind, can)
	}
	if a.Kind == api.Sat {
		return a
	}
	if values := q.meet(slices.Concat(q.asserts, a.Core), 0); values != nil {
		t.Fatalf("Solve of %s: Unsat by %v, but these hold where the terms are %v", q, a.Core, values)
	}
	if len(a.Core) > 0 && q.meet(q.asserts, 0) == nil {
		t.Fatalf("Solve of %s: Unsat by %v, but what is asserted clashes alone", q, a.Core)
	}
	return a
}

// truths are rows of Bool: p and q, and terms that grow by one more at a time.
func truths(t *testing.T) *pool.Pool {
	t.Helper()
	p, e := pool.New(symbols())
	if e != api.OK {
		t.Fatal(e)
	}
	p.Make(api.Term{Op: api.OpApp, Sym: 3})
	p.Make(api.Term{Op: api.OpApp, Sym: 4})
	return p
}

// kinds are all terms of Bool, without numbers, over so many terms; of OpAnd and OpOr those of two parts.
func kinds(count int) []api.Term {
	out := []api.Term{{Op: api.OpTrue}, {Op: api.OpFalse}, {Op: api.OpApp, Sym: 5}}
	for a := range count {
		out = append(out, api.Term{Op: api.OpNot, Args: []int{a}})
		for b := range count {
			for _, op := range []int{api.OpAnd, api.OpOr, api.OpIff} {
				out = append(out, api.Term{Op: op, Args: []int{a, b}})
			}
			for c := range count {
				out = append(out, api.Term{Op: api.OpIte, Args: []int{a, b, c}})
			}
		}
	}
	return out
}

// All conditions of two terms more than p and q, each asserted and assumed with each other one.
func TestAllSmallTruths(t *testing.T) {
	count := map[int]int{}
	for _, third := range kinds(2) {
		for _, fourth := range kinds(3) {
			p := truths(t)
			p.Make(third)
			p.Make(fourth)
			r := p.Rows()
			last := len(r.Terms) - 1
			for n := range r.Terms {
				count[question{r, []int{last}, []int{n}}.checkTruths(t).Kind]++
				count[question{r, []int{n}, []int{last, 0}}.checkTruths(t).Kind]++
				count[question{r, nil, []int{n, last}}.checkTruths(t).Kind]++
			}
		}
	}
	if count[api.Sat] < 5000 || count[api.Unsat] < 1000 {
		t.Fatalf("too few of a kind: %v", count)
	}
}

// Any conditions of at most 8 terms, any of them asserted and assumed, in any order.
func TestAnyTruths(t *testing.T) {
	r := chance()
	count := map[int]int{}
	for range 8000 {
		p := truths(t)
		for count, want := 2, 3+r.IntN(6); count < want; {
			term := anyOf(r, kinds(count)...)
			for range r.IntN(3) {
				if op := term.Op; op == api.OpAnd || op == api.OpOr {
					term.Args = append(term.Args, r.IntN(count))
				}
			}
			n, _ := p.Make(term)
			count = max(count, n+1)
		}
		q := question{rows: p.Rows()}
		for range r.IntN(5) {
			q.asserts = append(q.asserts, r.IntN(len(q.rows.Terms)))
		}
		for range r.IntN(6) {
			q.assume = append(q.assume, r.IntN(len(q.rows.Terms)))
		}
		count[q.checkTruths(t).Kind]++
	}
	if count[api.Sat] < 3000 || count[api.Unsat] < 700 {
		t.Fatalf("too few of a kind: %v", count)
	}
}

// Eight symbols alone, and all pairs of what they are and aren't.
func TestEightSymbols(t *testing.T) {
	r := api.Terms{}
	for n := range 8 {
		r.Syms = append(r.Syms, api.Sym{Name: strconv.Itoa(n), Sort: api.Bool})
		r.Terms = append(r.Terms, api.Term{Op: api.OpApp, Sym: n})
	}
	for some := range 256 {
		var asserts, assume []int
		for n := range 8 {
			if some>>n&1 == 1 {
				asserts = append(asserts, n)
			} else {
				assume = append(assume, 7-n)
			}
		}
		if a := (question{r, asserts, assume}).checkTruths(t); a.Kind != api.Sat {
			t.Fatalf("symbols alone: %v", a)
		}
	}
	for n := range 4 {
		r.Terms[n+4] = api.Term{Op: api.OpNot, Args: []int{n}}
	}
	for asserts := range 256 {
		for assume := range 256 {
			q := question{rows: r}
			for n := range 8 {
				if asserts>>n&1 == 1 {
					q.asserts = append(q.asserts, n)
				}
				if assume>>n&1 == 1 {
					q.assume = append(q.assume, (n*3)%8)
				}
			}
			if (asserts+assume)%7 == 0 {
				q.checkTruths(t)
			}
		}
	}
}

func TestTruths(t *testing.T) {
	sat(t, "true", "(not false)", "p q s", "p (not q) (not s)", "(= p q) (= q s) p", "(xor p q s) (not p)", "(distinct p q) (distinct q s)", "(=> p q) (=> q s) (not s)",
		"(ite p q s) (ite q s p)", "(ite (ite p q s) (not q) (not s))", "(or p q) (or (not p) q) (or p (not q))", "(= (and p q) (or p q)) (not p)", "(let ((a (and p q))) (or a (not a)))")
	unsat(t, "false", "(not true)", "p (not p)", "(= p q) (distinct q s) (= p s)", "(distinct p q) (distinct q s) (distinct p s)", "(=> p q) (=> q s) p (not s)", "(ite p q s) (not q) (not s)",
		"(or p q) (or (not p) q) (or p (not q)) (or (not p) (not q))", "(= (and p q) (or p q)) p (not q)", "(xor p q s) p q (not s)", "(not (let ((a (and p q))) (or a (not a))))", "p true (not p) false")
}

// Conjunctions and disjunctions of as many parts as may be.
func TestManyParts(t *testing.T) {
	parts := func(count int) string {
		var out strings.Builder
		for n := range count {
			out.WriteString(" (b " + strconv.Itoa(n) + ")")
		}
		return out.String()
	}
	for _, count := range []int{2, 3, 10, api.MaxArgs} {
		last := "(b " + strconv.Itoa(count-1) + ")"
		for _, one := range []string{"(b 0)", "(b 1)", last} {
			sat(t, "(and"+parts(count)+") "+one, "(or"+parts(count)+") (not "+one+")")
			for _, text := range []string{"(and" + parts(count) + ") (not " + one + ")", "(not (or" + parts(count) + ")) " + one} {
				for i, q := range read(t, text, "").splits() {
					if a := q.enough(t); a.Kind != api.Unsat || len(a.Core) != 2-i {
						t.Fatalf("%q: %v", text, a)
					}
				}
			}
		}
	}
	sat(t, parts(api.MaxArgs-1))
	q := read(t, parts(60), "(not (b 7)) (not (b 59)) p (b 7) (not (b 0))")
	if a := q.enough(t); a.Kind != api.Unsat || len(a.Core) != 1 {
		t.Fatalf("60 hold, and three of them don't: %v", a)
	}
}
