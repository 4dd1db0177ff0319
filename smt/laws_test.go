package smt_test

import (
	"math/rand/v2"
	"slices"
	"testing"

	"elenchus/api"
	"elenchus/pool"
)

// grown are rows that grow, and their terms' numbers by their sorts.
type grown struct {
	r  *rand.Rand
	p  *pool.Pool
	of map[int][]int
}

// grow begins with x, y, p and q.
func grow(t *testing.T, r *rand.Rand) grown {
	t.Helper()
	p, e := pool.New(symbols())
	if e != api.OK {
		t.Fatal(e)
	}
	g := grown{r, p, map[int][]int{}}
	for _, sym := range []int{0, 1, 3, 4} {
		g.make(api.Term{Op: api.OpApp, Sym: sym})
	}
	return g
}

func (g grown) make(t api.Term) int {
	n, e := g.p.Make(t)
	if sort, _ := g.p.Sort(n); e == api.OK && !slices.Contains(g.of[sort], n) {
		g.of[sort] = append(g.of[sort], n)
	}
	return n
}

// any is a term of a sort, mostly one that came late, so that terms stand within terms.
func (g grown) any(sort int) int {
	list := g.of[sort]
	return anyOf(g.r, anyOf(g.r, list...), list[max(0, len(list)-1-g.r.IntN(4))])
}

func (g grown) parts(count, sort int) []int {
	var out []int
	for range count {
		out = append(out, g.any(sort))
	}
	return out
}

// term is one with an Op, and parts of the right sorts; where it is OpApp, of a symbol of numbers.
func (g grown) term(op int) api.Term {
	out := api.Term{Op: op}
	switch op {
	case api.OpNum:
		out.Num = small(int64(g.r.IntN(7) - 3))
	case api.OpApp:
		out.Sym = anyOf(g.r, 6, 6, 7, 9, 10)
		out.Args = g.parts(symbols()[out.Sym].Arity, api.Whole)
	case api.OpNot:
		out.Args = g.parts(1, api.Bool)
	case api.OpAnd, api.OpOr:
		out.Args = g.parts(2+g.r.IntN(2), api.Bool)
	case api.OpIff:
		out.Args = g.parts(2, api.Bool)
	case api.OpIte:
		out.Args = append(g.parts(1, api.Bool), g.parts(2, anyOf(g.r, api.Bool, api.Whole, api.Whole))...)
	case api.OpEq, api.OpLe:
		out.Args = g.parts(2, api.Whole)
	case api.OpAdd:
		out.Args = g.parts(2+g.r.IntN(2), api.Whole)
	case api.OpMul:
		out.Num, out.Args = small(int64(g.r.IntN(7)-3)), g.parts(1, api.Whole)
	}
	return out
}

// question is one of so many terms more, with at most so many terms of symbols, any conditions of them asserted and assumed.
func (g grown) question(count, apps int) question {
	for range count {
		op := anyOf(g.r, 3, 4, 4, 5, 6, 7, 8, 9, 9, 10, 10, 11, 11, 11, 12, 12, 13)
		if op == api.OpApp {
			apps--
		}
		if op != api.OpApp || apps >= 0 {
			g.make(g.term(op))
		}
	}
	out := question{rows: g.p.Rows()}
	for range g.r.IntN(5) {
		out.asserts = append(out.asserts, g.any(api.Bool))
	}
	for range g.r.IntN(5) {
		out.assume = append(out.assume, g.any(api.Bool))
	}
	return out
}

// boxed are conditions by which x and y are near numbers.
func (g grown) boxed() []int {
	low, high := g.make(api.Term{Op: api.OpNum, Num: small(-near)}), g.make(api.Term{Op: api.OpNum, Num: small(near)})
	var out []int
	for _, n := range g.of[api.Whole][:2] {
		out = append(out, g.make(api.Term{Op: api.OpLe, Args: []int{low, n}}), g.make(api.Term{Op: api.OpLe, Args: []int{n, high}}))
	}
	return out
}

// Any conditions: right, if they are answered, and most are. That those that are asserted clash alone is known, too.
func TestAnyConditions(t *testing.T) {
	r := chance()
	count := map[int]int{}
	for range 3000 {
		q := grow(t, r).question(4+r.IntN(16), 3)
		a := q.check(t, 20000)
		count[a.Kind]++
		if a.Kind == api.Unsat && len(a.Core) > 0 && q.of(q.asserts, nil).ask(t, 20000).Kind == api.Unsat {
			t.Fatalf("Solve of %s: Unsat by %v, but what is asserted clashes alone", q, a.Core)
		}
	}
	if count[api.Sat] < 1500 || count[api.Unsat] < 300 || count[api.Unknown] > 10 {
		t.Fatalf("too few of a kind, or too many: %v", count)
	}
}

// Conditions over x, y, p and q alone, where x and y are near numbers: whether they can hold is known by
// trying all of them.
func TestAnyBoxes(t *testing.T) {
	r := chance()
	count := map[int]int{}
	for range 2500 {
		g := grow(t, r)
		box := g.boxed()
		q := g.question(4+r.IntN(20), 0)
		q.asserts = append(box, q.asserts...)
		q.enough(t)
		a := q.check(t, api.MaxFuel)
		count[a.Kind]++
		if can := q.meet(q.all(), near) != nil; can != (a.Kind == api.Sat) {
			t.Fatalf("Solve of %s: %d, but that it can hold is %v", q, a.Kind, can)
		}
		if len(a.Core) > 0 && q.meet(q.asserts, near) == nil {
			t.Fatalf("Solve of %s: Unsat by %v, but what is asserted clashes alone", q, a.Core)
		}
	}
	if count[api.Sat] < 800 || count[api.Unsat] < 500 {
		t.Fatalf("too few of a kind: %v", count)
	}
}

// In whatever order conditions stand, and whichever of them are assumed, they can hold or can't.
func TestOrderOfConditions(t *testing.T) {
	r := chance()
	for range 200 {
		q := grow(t, r).question(14, 3)
		want := q.ask(t, 20000)
		for range 5 {
			all := q.all()
			r.Shuffle(len(all), func(i, k int) { all[i], all[k] = all[k], all[i] })
			cut := r.IntN(len(all) + 1)
			if a := q.of(all[:cut], all[cut:]).check(t, 20000); a.Kind+want.Kind == api.Sat+api.Unsat && a.Kind != want.Kind {
				t.Fatalf("Solve of %s: %d, but in another order %d", q, want.Kind, a.Kind)
			}
		}
	}
}

// The same call is answered alike again, and what is answered doesn't hang on what was asked between.
func TestAskedAgain(t *testing.T) {
	r := chance()
	for range 150 {
		q := grow(t, r).question(20, 4)
		a := q.ask(t, 5000)
		grow(t, r).question(12, 3).ask(t, 5000)
		for range 3 {
			if b := q.ask(t, 5000); !isSame(a, b) {
				t.Fatalf("Solve of %s: first %v, then %v", q, a, b)
			}
		}
	}
}
