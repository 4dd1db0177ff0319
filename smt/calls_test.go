package smt_test

import (
	"math"
	"slices"
	"testing"

	"elenchus/api"
	"elenchus/pool"
	"elenchus/smt"
)

// refused fails unless a call answers this error, and nothing beside it.
func (q question) refused(t *testing.T, fuel int, want api.Errno) {
	t.Helper()
	a, used, e := smt.Solve(q.rows, q.asserts, q.assume, fuel)
	if e != want || a.Kind != 0 || len(a.Model.Tables) != 0 || len(a.Core) != 0 || used != 0 {
		t.Fatalf("Solve of %s, fuel %d: %v, %d, error %d, but its error is %d", q, fuel, a, used, e, want)
	}
}

// The chapter's examples, and those of the whole.
func TestExamples(t *testing.T) {
	if a := read(t, "(<= (+ x 1) x)", "").enough(t); a.Kind != api.Unsat || len(a.Core) != 0 {
		t.Errorf("x + 1 is at most x: %v", a)
	}
	q := read(t, "", "p (not p)")
	if a := q.enough(t); a.Kind != api.Unsat || !slices.Equal(a.Core, q.assume) {
		t.Errorf("p, and not p: %v", a)
	}
	sat(t, "(< x y) (< y z) (= (f x) 3)", "p", "(not p)")
	unsat(t, "(<= (+ x 1) x)", "p (not p)")
}

// Where nothing is asked for, there is a model, of a table for each symbol.
func TestNothing(t *testing.T) {
	terms := read(t, "(< x y) (b x) false", "").rows
	for _, r := range []api.Terms{{}, {Syms: []api.Sym{}, Terms: []api.Term{}}, {Syms: symbols()}, terms} {
		for _, none := range [][]int{nil, {}} {
			for _, other := range [][]int{nil, {}} {
				if a := (question{r, none, other}).enough(t); a.Kind != api.Sat {
					t.Fatalf("nothing of %v: %v", r, a)
				}
			}
		}
	}
}

// with is rows and a term more, which may not be.
func with(r api.Terms, t api.Term) api.Terms {
	return api.Terms{Syms: r.Syms, Terms: append(slices.Clone(r.Terms), t)}
}

// manyNumbers are rows of p and numbers, as many terms as are asked for.
func manyNumbers(count int) api.Terms {
	r := api.Terms{Syms: symbols(), Terms: []api.Term{{Op: api.OpApp, Sym: 3}}}
	for i := range count - 1 {
		r.Terms = append(r.Terms, api.Term{Op: api.OpNum, Num: small(int64(i))})
	}
	return r
}

// faulty are rows of which a condition is the term 0, and the error that tells what is wrong.
func faulty(t *testing.T) map[string]struct {
	rows api.Terms
	err  api.Errno
} {
	r := read(t, "p (< x y)", "").rows // p, x, y, 1, x + 1, and that that is at most y
	syms := func(more ...api.Sym) api.Terms { return api.Terms{Syms: append(symbols(), more...), Terms: r.Terms} }
	many := func(count int) api.Terms {
		out := syms()
		for len(out.Syms) < count {
			out.Syms = append(out.Syms, api.Sym{Name: "s" + string(rune(1000+len(out.Syms))), Sort: api.Bool})
		}
		return out
	}
	if e := pool.Check(many(api.MaxSyms)); e != api.OK {
		t.Fatalf("Check: error %d", e)
	}
	return map[string]struct {
		rows api.Terms
		err  api.Errno
	}{
		"symbols too many":     {many(api.MaxSyms + 1), api.ErrLong},
		"a symbol of no name":  {syms(api.Sym{Sort: api.Bool}), api.ErrForm},
		"a symbol of no sort":  {syms(api.Sym{Name: "n"}), api.ErrForm},
		"a symbol of Sort 3":   {syms(api.Sym{Name: "n", Sort: 3}), api.ErrForm},
		"an Arity below 0":     {syms(api.Sym{Name: "n", Arity: -1, Sort: 1}), api.ErrForm},
		"an Arity too great":   {syms(api.Sym{Name: "n", Arity: api.MaxArity + 1, Sort: 1}), api.ErrForm},
		"two of a name":        {syms(api.Sym{Name: "p", Sort: api.Bool}), api.ErrName},
		"no Op":                {with(r, api.Term{}), api.ErrForm},
		"an Op below 0":        {with(r, api.Term{Op: -1}), api.ErrForm},
		"an Op too great":      {with(r, api.Term{Op: 14}), api.ErrForm},
		"a Num of OpNot":       {with(r, api.Term{Op: api.OpNot, Num: small(1), Args: []int{0}}), api.ErrForm},
		"a Sym of OpNot":       {with(r, api.Term{Op: api.OpNot, Sym: 1, Args: []int{0}}), api.ErrForm},
		"no symbol":            {with(r, api.Term{Op: api.OpApp, Sym: len(r.Syms)}), api.ErrName},
		"a symbol below 0":     {with(r, api.Term{Op: api.OpApp, Sym: -1}), api.ErrName},
		"a part of its own":    {with(r, api.Term{Op: api.OpNot, Args: []int{len(r.Terms)}}), api.ErrArg},
		"a part below 0":       {with(r, api.Term{Op: api.OpNot, Args: []int{-1}}), api.ErrArg},
		"OpAnd of nothing":     {with(r, api.Term{Op: api.OpAnd}), api.ErrCount},
		"OpAnd of one":         {with(r, api.Term{Op: api.OpAnd, Args: []int{0}}), api.ErrCount},
		"OpOr of nothing":      {with(r, api.Term{Op: api.OpOr}), api.ErrCount},
		"OpOr of one":          {with(r, api.Term{Op: api.OpOr, Args: []int{0}}), api.ErrCount},
		"OpIff of one":         {with(r, api.Term{Op: api.OpIff, Args: []int{0}}), api.ErrCount},
		"OpIff of three":       {with(r, api.Term{Op: api.OpIff, Args: []int{0, 0, 0}}), api.ErrCount},
		"parts too many":       {with(r, api.Term{Op: api.OpAnd, Args: make([]int, api.MaxArgs+1)}), api.ErrCount},
		"no part of f":         {with(r, api.Term{Op: api.OpApp, Sym: 6}), api.ErrCount},
		"OpNot of a number":    {with(r, api.Term{Op: api.OpNot, Args: []int{1}}), api.ErrSort},
		"OpAdd of a truth":     {with(r, api.Term{Op: api.OpAdd, Args: []int{1, 0}}), api.ErrSort},
		"If of a number":       {with(r, api.Term{Op: api.OpIte, Args: []int{1, 1, 1}}), api.ErrSort},
		"If of unlike parts":   {with(r, api.Term{Op: api.OpIte, Args: []int{0, 1, 0}}), api.ErrSort},
		"a term twice":         {with(r, api.Term{Op: api.OpApp, Sym: 3}), api.ErrForm},
		"a number twice":       {with(r, api.Term{Op: api.OpNum, Num: api.Int{Abs: api.Nat{1, 0}}}), api.ErrForm},
		"terms too many":       {manyNumbers(api.MaxTerms + 1), api.ErrLong},
		"two things are wrong": {with(with(r, api.Term{Op: api.OpNot, Args: []int{1}}), api.Term{}), api.ErrSort},
	}
}

func notFuel() []int {
	return []int{-1, -2, api.MaxFuel + 1, api.MaxFuel + 2, 1 << 32, 1<<32 + 1, -1 << 32, math.MaxInt, math.MinInt, math.MinInt + 1}
}

func allowedFuel() []int {
	return []int{0, 1, 2, 1000, api.MaxFuel - 1, api.MaxFuel}
}

// Rows that may not be are refused, whatever is asked of them, ahead of all else.
func TestFaultyRows(t *testing.T) {
	for name, c := range faulty(t) {
		t.Run(name, func(t *testing.T) {
			if e := pool.Check(c.rows); e != c.err {
				t.Fatalf("Check: error %d, not %d", e, c.err)
			}
			lists := [][]int{nil, {0}, {-1}, {len(c.rows.Terms)}, {1}, {0, 1, math.MaxInt}}
			for _, asserts := range lists {
				for _, assume := range lists {
					for _, fuel := range []int{0, 1000, -1, api.MaxFuel + 1} {
						question{c.rows, asserts, assume}.refused(t, fuel, c.err)
					}
				}
			}
		})
	}
}

// placed are questions in which a number stands at each place of either list, among conditions.
func placed(r api.Terms, n int, conditions ...int) []question {
	out := []question{{r, []int{n}, nil}, {r, nil, []int{n}}, {r, []int{n}, conditions}, {r, conditions, []int{n}}, {r, []int{n}, []int{n}}, {r, []int{n, n}, nil}}
	for i := range len(conditions) + 1 {
		list := slices.Insert(slices.Clone(conditions), i, n)
		out = append(out, question{r, list, nil}, question{r, nil, list}, question{r, list, conditions}, question{r, conditions, list})
	}
	return out
}

func TestNumbersThatAreNone(t *testing.T) {
	q := read(t, "p (< x y) (not p)", "")
	count := len(q.rows.Terms)
	for _, none := range []int{-1, -2, count, count + 1, api.MaxTerms, 1 << 32, -1 << 32, math.MaxInt, math.MinInt} {
		for _, bad := range placed(q.rows, none, q.asserts...) {
			for _, fuel := range []int{0, 1, 1000, api.MaxFuel} {
				bad.refused(t, fuel, api.ErrArg)
			}
		}
	}
	for _, r := range []api.Terms{{}, {Syms: symbols()}} {
		question{r, []int{0}, nil}.refused(t, 100, api.ErrArg)
		question{r, nil, []int{0}}.refused(t, 100, api.ErrArg)
	}
	for n := range count {
		if slices.Contains(q.asserts, n) {
			q.of([]int{n}, nil).enough(t)
			q.of(nil, []int{n}).enough(t)
		}
	}
}

// Terms of Whole are refused in either list, those that are no longer there once they are folded among them.
func TestTermsOfWhole(t *testing.T) {
	text := "p (not p) (< x y) (<= (+ x 0) (ite p x y)) (<= (ite true x y) (* 3 x)) (= (* 0 x) (g x (- 5))) (= (h x x x x) (+ 2 3 (f 1)))"
	q := read(t, text, "")
	whole, ops := 0, map[int]bool{}
	for n, term := range q.rows.Terms {
		if (question{q.rows, []int{n}, nil}).isOfBool() {
			continue
		}
		whole++
		ops[term.Op] = true
		for _, bad := range placed(q.rows, n, q.asserts...) {
			for _, fuel := range []int{0, 1, api.MaxFuel} {
				bad.refused(t, fuel, api.ErrSort)
			}
		}
	}
	if whole < 12 || len(ops) != 5 {
		t.Fatalf("only %d terms of Whole, of %d Ops", whole, len(ops))
	}
}

// isOfBool asks whether the first condition may be one, as layer 4 tells.
func (q question) isOfBool() bool {
	p, _ := pool.New(q.rows.Syms)
	for _, term := range q.rows.Terms {
		p.Make(term)
	}
	sort, _ := p.Sort(q.asserts[0])
	return sort == api.Bool
}

func TestFuels(t *testing.T) {
	for _, q := range []question{{}, read(t, "p", "q"), read(t, "(< x y)", "(< y x)"), read(t, "p", "(not p)"), read(t, "false", "")} {
		for _, fuel := range allowedFuel() {
			q.ask(t, fuel)
		}
		for _, fuel := range notFuel() {
			q.refused(t, fuel, api.ErrArg)
		}
	}
}

// Numbers that are none, and fuel that may not be, come ahead of terms of Whole.
func TestWhichErrorComes(t *testing.T) {
	q := read(t, "p (< x y) (not p)", "")
	x := slices.IndexFunc(q.rows.Terms, func(term api.Term) bool { return term.Op == api.OpApp && term.Sym == 0 })
	for _, none := range []int{-1, len(q.rows.Terms), math.MaxInt, math.MinInt} {
		for _, bad := range placed(q.rows, none, 0, x) {
			bad.refused(t, 1000, api.ErrArg)
			bad.refused(t, -1, api.ErrArg)
		}
	}
	for _, bad := range placed(q.rows, x, q.asserts...) {
		for _, fuel := range notFuel() {
			bad.refused(t, fuel, api.ErrArg)
		}
		bad.refused(t, 0, api.ErrSort)
	}
}
