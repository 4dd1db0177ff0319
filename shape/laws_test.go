package shape_test

import (
	"math"
	"math/rand/v2"
	"slices"
	"strconv"
	"testing"

	"elenchus/api"
	"elenchus/pool"
	"elenchus/value"
)

// chance is the same in each run.
func chance() *rand.Rand {
	return rand.New(rand.NewPCG(9, 24))
}

func anyOf[T any](r *rand.Rand, items ...T) T {
	return items[r.IntN(len(items))]
}

// anyInt is in any form; mostly it is small, so that sums and products come to 0, to 1, and to what is there.
func anyInt(r *rand.Rand) api.Int {
	v := api.Int{Neg: r.IntN(2) == 0}
	if r.IntN(4) > 0 {
		v.Abs = append(v.Abs, uint64(r.IntN(3)))
	}
	if r.IntN(8) == 0 {
		for range r.IntN(4) {
			v.Abs = append(v.Abs, anyOf[uint64](r, 0, 0, 1, 5, math.MaxUint64))
		}
	}
	return v
}

// grown are rows that grow, and their terms' numbers by their sorts.
type grown struct {
	r    *rand.Rand
	p    *pool.Pool
	syms []api.Sym
	of   map[int][]int
}

func grow(t *testing.T, r *rand.Rand) grown {
	t.Helper()
	var syms []api.Sym
	for i := range 2 + r.IntN(4) {
		syms = append(syms, api.Sym{Name: "s" + strconv.Itoa(i), Arity: anyOf(r, 0, 0, 0, r.IntN(5)), Sort: 1 + i%2})
	}
	p, err := pool.New(syms)
	if err != api.OK {
		t.Fatalf("New of %v: error %d", syms, err)
	}
	return grown{r, p, syms, map[int][]int{}}
}

// anyTerm has parts of the right sorts; where there are none yet, it has no parts.
func (g grown) anyTerm() api.Term {
	op := 1 + g.r.IntN(13)
	out := api.Term{Op: op}
	switch op {
	case api.OpNum:
		out.Num = anyInt(g.r)
	case api.OpApp:
		out.Sym = g.r.IntN(len(g.syms))
		out.Args = g.parts(g.syms[out.Sym].Arity, api.Whole)
	case api.OpNot:
		out.Args = g.parts(1, api.Bool)
	case api.OpAnd, api.OpOr:
		out.Args = g.parts(2+g.r.IntN(4), api.Bool)
	case api.OpIff:
		out.Args = g.parts(2, api.Bool)
	case api.OpIte:
		out.Args = append(g.parts(1, api.Bool), g.parts(2, 1+g.r.IntN(2))...)
	case api.OpEq, api.OpLe:
		out.Args = g.parts(2, api.Whole)
	case api.OpAdd:
		out.Args = g.parts(2+g.r.IntN(4), api.Whole)
	case api.OpMul:
		out.Num, out.Args = anyInt(g.r), g.parts(1, api.Whole)
	}
	return out
}

func (g grown) parts(count, sort int) []int {
	var out []int
	for range count {
		if len(g.of[sort]) == 0 {
			return nil
		}
		out = append(out, anyOf(g.r, g.of[sort]...))
	}
	return out
}

// rows are some terms; what may not be is left out.
func (g grown) rows(count int) api.Terms {
	for range count {
		n, err := g.p.Make(g.anyTerm())
		if err != api.OK {
			continue
		}
		sort, _ := g.p.Sort(n)
		g.of[sort] = append(g.of[sort], n)
	}
	return g.p.Rows()
}

// raw are the same rows, their numbers in other forms.
func (g grown) raw(r api.Terms) api.Terms {
	out := api.Terms{Syms: r.Syms}
	for _, t := range r.Terms {
		t.Num = anyOf(g.r, formsOf(t.Num)...)
		out.Terms = append(out.Terms, t)
	}
	return out
}

func (g grown) model() api.Model {
	var m api.Model
	for _, s := range g.syms {
		t := api.Table{Else: anyInt(g.r)}
		for range g.r.IntN(6) {
			line := api.Row{Val: anyInt(g.r)}
			for range s.Arity {
				line.Args = append(line.Args, anyInt(g.r))
			}
			t.Rows = append(t.Rows, line)
		}
		m.Tables = append(m.Tables, t)
	}
	return m
}

// checkValues fails unless each stand-in has its term's value.
func checkValues(t *testing.T, r, folded api.Terms, standIns []int, m api.Model) {
	t.Helper()
	values, err := value.Eval(r, m)
	after, errAfter := value.Eval(folded, m)
	if err != api.OK || errAfter != api.OK {
		t.Fatalf("Eval of %.3000q: error %d; folded: %d", written(r), err, errAfter)
	}
	for n, k := range standIns {
		if meant(values[n]).Cmp(meant(after[k])) != 0 {
			t.Fatalf("Fold of %.3000q: %.3000q, stand-ins %v: by %v the term %d has the value %v, and its stand-in %v", written(r), written(folded), standIns, m, n, values[n], after[k])
		}
	}
}

// Whatever rows are given, they come to what the document tells, stand-ins have their terms' values,
// and folded again roots stay as they are.
func TestAnyRows(t *testing.T) {
	r := chance()
	for range 600 {
		g := grow(t, r)
		rows := g.raw(g.rows(1 + r.IntN(100)))
		checkOther(t, rows)
		checkAgain(t, rows)
		got, standIns := folded(t, rows, allOf(rows))
		for range 4 {
			checkValues(t, rows, got, standIns, g.model())
		}
	}
}

// What a root comes to doesn't hang on which roots there are.
func TestAnyRoots(t *testing.T) {
	r := chance()
	for range 300 {
		rows := grow(t, r).rows(60)
		want, standIns := expected(rows)
		var roots, wanted []int
		for range r.IntN(20) {
			root := anyOf(r, allOf(rows)...)
			roots, wanted = append(roots, root), append(wanted, standIns[root])
		}
		if got, k := folded(t, rows, roots); written(got) != written(want) || !slices.Equal(k, wanted) {
			t.Fatalf("Fold of %q, roots %v: %q, %v, but it is %q, %v", written(rows), roots, written(got), k, written(want), wanted)
		}
	}
}

// The same rows come to the same, each time.
func TestAskedAgain(t *testing.T) {
	r := chance()
	for range 50 {
		rows := grow(t, r).rows(60)
		first, k := folded(t, rows, allOf(rows))
		second, l := folded(t, rows, allOf(rows))
		if written(first) != written(second) || !slices.Equal(k, l) {
			t.Fatalf("Fold of %q: %q, %v; asked again: %q, %v", written(rows), written(first), k, written(second), l)
		}
	}
}

// each hands on all lists of so many of some numbers.
func each(count int, of []int, take func([]int)) {
	if count == 0 {
		take(nil)
		return
	}
	each(count-1, of, func(ahead []int) {
		for _, n := range of {
			take(append(slices.Clone(ahead), n))
		}
	})
}

// Each Op, of all parts that a rule may speak of.
func TestAllParts(t *testing.T) {
	const base = "true | false | p | q | not 2 | not 4 | x | y | #0 | #1 | #2 | #-2 | *2 6 | *-1 6 | *1 7 | f 6"
	truths, wholes := []int{0, 1, 2, 3, 4, 5}, []int{6, 7, 8, 9, 10, 11, 12, 13, 14, 15}
	terms := func(op, count int, of []int) []api.Term {
		var out []api.Term
		each(count, of, func(parts []int) { out = append(out, api.Term{Op: op, Args: parts}) })
		return out
	}
	var products, choices []api.Term
	for _, k := range []int64{-2, -1, 0, 1, 2, 3} {
		for _, t := range terms(api.OpMul, 1, wholes) {
			t.Num = small(k)
			products = append(products, t)
		}
	}
	for _, c := range truths {
		for _, t := range terms(api.OpIte, 2, wholes) {
			t.Args = slices.Insert(t.Args, 0, c)
			choices = append(choices, t)
		}
	}
	for _, l := range [][]api.Term{
		terms(api.OpNot, 1, truths), terms(api.OpAnd, 2, truths), terms(api.OpAnd, 4, truths), terms(api.OpOr, 3, truths), terms(api.OpOr, 4, truths),
		terms(api.OpIff, 2, truths), terms(api.OpIte, 3, truths), choices, terms(api.OpEq, 2, wholes), terms(api.OpLe, 2, wholes),
		terms(api.OpAdd, 2, wholes), terms(api.OpAdd, 3, wholes), products,
	} {
		checkAllValues(t, grownBy(t, rows(t, base), l))
	}
}

// grownBy are rows with further terms, but those that are there.
func grownBy(t *testing.T, r api.Terms, terms []api.Term) api.Terms {
	t.Helper()
	p, _ := pool.New(r.Syms)
	for _, what := range append(r.Terms, terms...) {
		if _, err := p.Make(what); err != api.OK {
			t.Fatalf("Make of %v: error %d", what, err)
		}
	}
	return p.Rows()
}

// checkAllValues checks rows of a text's symbols, by all models of small numbers.
func checkAllValues(t *testing.T, r api.Terms) {
	t.Helper()
	checkOther(t, r)
	checkAgain(t, r)
	got, standIns := folded(t, r, allOf(r))
	for _, p := range []int64{0, 1} {
		for _, q := range []int64{0, 1} {
			for _, x := range []int64{-1, 0, 2} {
				for _, y := range []int64{-4, 1, 2} {
					checkValues(t, r, got, standIns, constants(p, q, x, y, 3, 1))
				}
			}
		}
	}
}

// constants are a model by which each symbol tells one number, whatever it is asked of.
func constants(values ...int64) api.Model {
	var m api.Model
	for _, v := range values {
		m.Tables = append(m.Tables, api.Table{Else: small(v)})
	}
	return m
}
