package smt_test

import (
	"slices"
	"testing"

	"elenchus/api"
	"elenchus/pool"
	"elenchus/shape"
)

// outgrowing is a question of rows that may be, but that would be too many terms if they were folded: each
// sum of x and two numbers comes to two terms that aren't there.
func outgrowing(t *testing.T) question {
	t.Helper()
	r := api.Terms{Syms: symbols(), Terms: []api.Term{{Op: api.OpApp, Sym: 0}, {Op: api.OpApp, Sym: 3}}}
	const numbers = 92
	for i := range numbers {
		r.Terms = append(r.Terms, api.Term{Op: api.OpNum, Num: api.Int{Abs: append(make(api.Nat, i/8), 1<<(i%8*8))}})
	}
	for i := 2; i < numbers+2 && len(r.Terms) < 2100; i++ {
		for j := i + 1; j < numbers+2 && len(r.Terms) < 2100; j++ {
			r.Terms = append(r.Terms, api.Term{Op: api.OpAdd, Args: []int{i, 0, j}})
		}
	}
	last := len(r.Terms) - 1
	r.Terms = append(r.Terms, api.Term{Op: api.OpLe, Args: []int{last, 0}}, api.Term{Op: api.OpNot, Args: []int{1}}, api.Term{Op: api.OpLe, Args: []int{last, 2}}, api.Term{Op: api.OpEq, Args: []int{0, 3}})
	if _, _, e := shape.Fold(r, nil); e != api.ErrLong || pool.Check(r) != api.OK {
		t.Fatalf("Fold: error %d, Check: error %d", e, pool.Check(r))
	}
	return question{r, []int{last + 3}, []int{1}}
}

// Rows that would be too many terms if they were folded are answered like any others.
func TestRowsThatOutgrowTheirPool(t *testing.T) {
	q := outgrowing(t)
	count := len(q.rows.Terms)
	p, never, not, equal := 1, count-4, count-3, count-1
	for _, c := range []struct {
		asserts, assume, core []int
		want                  int
	}{
		{[]int{count - 2}, []int{p}, nil, api.Sat}, {[]int{equal, p}, nil, nil, api.Sat}, {[]int{p, equal}, []int{not}, []int{not}, api.Unsat},
		{[]int{never}, []int{p}, nil, api.Unsat}, {nil, []int{p, never}, []int{never}, api.Unsat}, {[]int{equal, not}, []int{count - 2}, []int{count - 2}, api.Unsat},
	} {
		if a := q.of(c.asserts, c.assume).enough(t); a.Kind != c.want || !slices.Equal(a.Core, c.core) {
			t.Fatalf("of %v, assumed %v: %d, %v, but it is %d, %v", c.asserts, c.assume, a.Kind, a.Core, c.want, c.core)
		}
	}
	q.of([]int{p}, []int{0}).refused(t, 100, api.ErrSort)
	q.of([]int{p}, []int{count}).refused(t, 100, api.ErrArg)
	q.of([]int{p}, nil).refused(t, -1, api.ErrArg)
}

// As many terms, and as many symbols, as may be.
func TestMostTerms(t *testing.T) {
	r := api.Terms{Terms: []api.Term{{Op: api.OpNum, Num: small(1)}}}
	ahead := -1
	var steps []int
	for n := range api.MaxSyms {
		r.Syms = append(r.Syms, api.Sym{Name: string(rune(1000 + n)), Sort: api.Whole})
		r.Terms = append(r.Terms, api.Term{Op: api.OpApp, Sym: n})
		x := len(r.Terms) - 1
		if ahead >= 0 {
			r.Terms = append(r.Terms, api.Term{Op: api.OpAdd, Args: []int{ahead, 0}}, api.Term{Op: api.OpLe, Args: []int{x + 1, x}})
			steps = append(steps, x+2)
		}
		ahead = x
	}
	r.Terms = append(r.Terms, api.Term{Op: api.OpLe, Args: []int{ahead, 1}})
	last := len(r.Terms) - 1
	for len(r.Terms) < api.MaxTerms {
		r.Terms = append(r.Terms, api.Term{Op: api.OpNot, Args: []int{len(r.Terms) - 1}})
	}
	end := len(r.Terms) - 1 // Not of Not of .. that the last one isn't above the first one
	if (end-last)%2 == 1 {
		end--
	}
	if a := (question{r, steps, nil}).enough(t); a.Kind != api.Sat {
		t.Fatalf("255 steps up: %d", a.Kind)
	}
	if a := (question{r, steps, []int{end}}).enough(t); a.Kind != api.Unsat || !slices.Equal(a.Core, []int{end}) {
		t.Fatalf("255 steps up, but not above the first one: %d, %v", a.Kind, a.Core)
	}
	if a := (question{r, steps[:200], append(steps[201:], end)}).enough(t); a.Kind != api.Sat {
		t.Fatalf("254 steps up, but not above the first one: %d", a.Kind)
	}
}
