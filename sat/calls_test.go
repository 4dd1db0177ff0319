package sat_test

import (
	"math"
	"slices"
	"testing"

	"elenchus/api"
	"elenchus/sat"
)

// The chapter's examples.
func TestExamples(t *testing.T) {
	p := newPair(t, 1, []int{1})
	p.isUnsat([]int{-1}, -1)
	p.add([]int{-1})
	p.isUnsat([]int{-1})
	p.isUnsat(nil)
}

func TestNew(t *testing.T) {
	for _, c := range []struct{ n, count int }{
		{math.MinInt, 0}, {math.MinInt + 1, 0}, {-api.MaxFuel, 0}, {-2, 0}, {-1, 0}, {0, 0}, {1, 1}, {2, 2}, {3, 3}, {9, 9}, {501, 501},
		{api.MaxTerms - 1, api.MaxTerms - 1}, {api.MaxTerms, api.MaxTerms}, {api.MaxTerms + 1, api.MaxTerms + 1}, {2*api.MaxTerms + 5, 2*api.MaxTerms + 5},
		{api.MaxFuel - 1, api.MaxFuel - 1}, {api.MaxFuel, api.MaxFuel}, {api.MaxFuel + 1, api.MaxFuel}, {1 << 32, api.MaxFuel}, {1<<32 + 5, api.MaxFuel}, {math.MaxInt, api.MaxFuel},
	} {
		s := sat.New(c.n)
		if s == nil {
			t.Fatalf("New of %d: nil", c.n)
		}
		for _, l := range []int{c.count + 1, -c.count - 1} {
			if e := s.Add([]int{l}); e != api.ErrArg {
				t.Fatalf("New of %d: Add of %d: %d", c.n, l, e)
			}
		}
		k, truths, core, used, e := s.Solve(nil, api.MaxFuel)
		if e != api.OK || k != api.Sat || len(truths) != c.count || len(core) != 0 || used < 0 || used > api.MaxFuel {
			t.Fatalf("New of %d: Solve: %d, %d truths, %v, %d, %d", c.n, k, len(truths), core, used, e)
		}
		if got := s.Grow(); got != c.count+1 {
			t.Fatalf("New of %d has %d variables, not %d", c.n, got-1, c.count)
		}
	}
}

// A solver has no clauses at first: each truths are right.
func TestNewHasNoClauses(t *testing.T) {
	for n := range 7 {
		for truths := range uint(1) << n {
			p := newPair(t, n)
			p.isSat()
			list := []int{}
			for v := 1; v <= n; v++ {
				if isTrue(truths, v) {
					list = append(list, v)
				} else {
					list = append(list, -v)
				}
			}
			p.isSat(list...)
		}
	}
}

func TestGrow(t *testing.T) {
	for _, n := range []int{-3, 0, 1, 2, 7} {
		p := newPair(t, max(n, 0))
		for range 4 {
			p.grow()
			v := p.o.n
			p.add([]int{v + 1}, []int{-v - 1}, []int{v, v + 1})
			p.isSat(v)
			p.isSat(-v)
			p.add([]int{-v, v})
			p.isSat(v)
			p.add([]int{-v})
			p.isSat()
			p.isUnsat([]int{v}, v)
		}
	}
}

func TestGrowOfNone(t *testing.T) {
	p := newPair(t, 0)
	p.isSat()
	p.add([]int{1}, []int{-1})
	p.grow()
	p.isSat(1)
	p.isSat(-1)
	p.add([]int{1})
	p.isUnsat([]int{-1}, -1)
}

// New's end isn't Grow's: each call is one more variable, in a row.
func TestGrowOften(t *testing.T) {
	s := sat.New(0)
	for v := 1; v <= 3*api.MaxTerms; v++ {
		if got := s.Grow(); got != v {
			t.Fatalf("Grow: %d, but it is %d", got, v)
		}
	}
	last := 3 * api.MaxTerms
	for _, c := range [][]int{{-1, last}, {1, last}} {
		if e := s.Add(c); e != api.OK {
			t.Fatalf("Add of %v: %d", c, e)
		}
	}
	if e := s.Add([]int{last + 1}); e != api.ErrArg {
		t.Fatalf("Add of %d: %d", last+1, e)
	}
	k, truths, _, _, _ := s.Solve([]int{-1}, api.MaxFuel)
	if k != api.Sat || len(truths) != last || truths[0] || !truths[last-1] {
		t.Fatalf("Solve: %d, %d truths", k, len(truths))
	}
	if k, _, core, _, _ := s.Solve([]int{1, -last}, api.MaxFuel); k != api.Unsat || !slices.Contains(core, -last) {
		t.Fatalf("Solve: %d, %v", k, core)
	}
	s = sat.New(math.MaxInt)
	for v := api.MaxFuel + 1; v < api.MaxFuel+100; v++ {
		if got := s.Grow(); got != v {
			t.Fatalf("Grow: %d, but it is %d", got, v)
		}
	}
}

func TestGrowBehindAnAnswer(t *testing.T) {
	p := newPair(t, 2, []int{1, 2})
	p.isSat()
	p.grow()
	p.add([]int{-1, 3}, []int{-2, 3})
	p.isSat()
	p.isUnsat([]int{-1, -2}, -1, -2)
	p.clashes(-1, -2, 3)
	p.grow()
	p.add([]int{-3, 4})
	if a := p.asked(nil, 0); a.kind != api.Unknown {
		t.Fatalf("fuel 0: %d", a.kind)
	}
	p.grow()
	p.add([]int{-4, 5})
	p.isUnsat([]int{-5}, -5)
	p.add([]int{-5})
	p.isUnsat(nil)
	p.grow()
	p.add([]int{6}, []int{-6, 7})
	p.isUnsat([]int{6})
}

func TestAddOfNoLiteral(t *testing.T) {
	for _, n := range []int{0, 1, 2, 9, 64} {
		s := sat.New(n)
		for _, l := range noLiterals(n) {
			list := [][]int{{l}, {l, l}, {l, -l}}
			if n > 0 {
				list = append(list, []int{1, l}, []int{l, -n}, []int{1, -1, l}, []int{n, l, -1})
			}
			for _, c := range list {
				if e := s.Add(c); e != api.ErrArg {
					t.Fatalf("of %d variables: Add of %v: %d", n, c, e)
				}
			}
		}
		for _, l := range []int{n, -n} {
			if l == 0 {
				continue
			}
			for _, c := range [][]int{{l}, {1, l}, {l, -1}} {
				if e := sat.New(n).Add(c); e != api.OK {
					t.Fatalf("of %d variables: Add of %v: %d", n, c, e)
				}
			}
		}
	}
}

// A clause that is refused changes nothing: neither any truth may be, nor what is told of a new variable.
func TestRefusedClauseChangesNothing(t *testing.T) {
	clauses := [][]int{{1, 2, -3}, {-1, 3}, {2, 3}}
	p, o := newPair(t, 3, clauses...), newPair(t, 3, clauses...)
	for _, l := range noLiterals(3) {
		for _, c := range [][]int{{l}, {-1, l}, {l, -2}, {-3, l, -3}, {-1, -2, -3, l}, {3, -3, l}} {
			p.add(c)
			for truths := range uint(8) {
				list := []int{}
				for v := 1; v <= 3; v++ {
					if isTrue(truths, v) {
						list = append(list, v)
					} else {
						list = append(list, -v)
					}
				}
				if a, b := p.enough(list...), o.enough(list...); !isSame(a, b) {
					t.Fatalf("behind %v Solve of %v answers %v, not %v", c, list, a, b)
				}
			}
		}
	}
	p.grow()
	p.isSat(4)
	p.isSat(-4)
}

// The empty clause never holds.
func TestEmptyClause(t *testing.T) {
	for _, empty := range [][]int{nil, {}} {
		for n := range 4 {
			p := newPair(t, n, empty)
			p.isUnsat(nil)
			for v := 1; v <= n; v++ {
				p.isUnsat([]int{v})
				p.isUnsat([]int{-v, v, -v})
			}
			p.add(empty)
			p.grow()
			p.add([]int{n + 1})
			p.isUnsat([]int{n + 1, -n - 1})
		}
	}
	p := newPair(t, 2, []int{1, 2}, []int{-1, 2})
	p.isSat()
	p.isSat(2)
	p.add(nil)
	p.isUnsat([]int{2})
	p.isUnsat(nil)
}

func TestClauseOfOneLiteral(t *testing.T) {
	for _, l := range []int{1, -1, 2, -2, 3, -3} {
		p := newPair(t, 3, []int{l})
		p.isSat()
		p.isSat(l)
		p.isUnsat([]int{-l}, -l)
		p.clashes(l, -l)
		p.add([]int{l})
		p.isSat(l, l)
		p.add([]int{-l})
		p.isUnsat(nil)
		p.isUnsat([]int{l})
		p.add([]int{-l})
		p.isUnsat([]int{-l})
	}
}

// A literal that stands twice means no more than once.
func TestLiteralTwice(t *testing.T) {
	for _, l := range []int{1, -1, 2, -2} {
		p := newPair(t, 3, []int{l, l})
		p.isUnsat([]int{-l}, -l)
		p.isSat(l)
		p.isSat(3)
		p = newPair(t, 3, []int{l, 3, l, 3, 3})
		p.isSat(-l)
		p.isSat(-3)
		p.isUnsat([]int{-3, -l}, -3, -l)
		p.add([]int{l, -3, l})
		p.isSat(l, -3)
		p.isSat(l, 3)
		p.isUnsat([]int{-l}, -l)
	}
}

// A clause of a literal and its opposite always holds.
func TestOppositesInAClause(t *testing.T) {
	for _, c := range [][]int{{1, -1}, {-1, 1}, {2, 1, -2}, {-3, 1, 2, 3}, {1, 1, -1, -1}, {3, 2, 1, -1, -2, -3}} {
		p := newPair(t, 3, c)
		for truths := range uint(8) {
			list := []int{1, 2, 3}
			for i := range list {
				if truths>>i&1 == 0 {
					list[i] = -list[i]
				}
			}
			p.isSat(list...)
		}
		p.add([]int{1}, []int{2}, []int{3}, c)
		p.isSat()
		p.add([]int{-1, -2, -3})
		p.isUnsat(nil)
	}
}

// A clause that was added already changes nothing, in whichever order its literals stand.
func TestClauseAgain(t *testing.T) {
	p := newPair(t, 3, []int{1, 2, 3})
	for range 5 {
		p.add([]int{1, 2, 3}, []int{3, 2, 1}, []int{2, 3, 1, 2})
		p.isSat(-1, -2)
		p.isUnsat([]int{-1, -2, -3}, -1, -2, -3)
	}
	p.add([]int{-3})
	for range 3 {
		p.add([]int{1, 2, 3}, []int{2, 1})
		p.isSat(-1)
		p.clashes(-1, -2)
	}
}

// Clauses that are alike but for a sign, or but for their numbers' digits, are different ones.
func TestClausesAlike(t *testing.T) {
	p := newPair(t, 12, []int{1, 2}, []int{-1, 2}, []int{1, -2})
	p.isSat(1, 2)
	p.isSat()
	p.add([]int{-1, -2})
	p.isUnsat(nil)
	p = newPair(t, 12, []int{1, 12}, []int{11, 2}, []int{-1, 12}, []int{1, 2}, []int{1, 1, 2}, []int{-11, 2}, []int{-1, -12, 2})
	p.clashes(-2, 3)
	p.isUnsat([]int{-2}, -2)
	p = newPair(t, 12, []int{-12, 3}, []int{-1, 2, 3}, []int{-1, -12, 4}, []int{-11, -2, 4}, []int{-1, 1, 2, 4})
	p.isUnsat([]int{1, -2, -3}, 1, -2, -3)
	p.isUnsat([]int{11, 2, -4}, 11, 2, -4)
	p.isUnsat([]int{12, -3}, 12, -3)
	p = newPair(t, 12, []int{1, 2, 3}, []int{12, 3}, []int{1, 2}, []int{1, 3})
	p.isSat(-12, -1)
	p.isUnsat([]int{-3, -12}, -3, -12)
}

func TestErrorsOfSolve(t *testing.T) {
	fuels := []int{-1, -2, api.MaxFuel + 1, api.MaxFuel + 2, 1 << 32, math.MinInt, math.MinInt + 1, math.MaxInt}
	for _, n := range []int{0, 1, 3, 64} {
		p := newPair(t, n)
		refused := func(assume []int, fuel int) {
			t.Helper()
			k, truths, core, used, e := p.s.Solve(assume, fuel)
			if k != 0 || len(truths) != 0 || len(core) != 0 || used != 0 || e != api.ErrArg {
				t.Fatalf("of %d variables: Solve of %v, fuel %d: %d, %v, %v, %d, %d", n, assume, fuel, k, truths, core, used, e)
			}
		}
		lists := [][]int{}
		for _, l := range noLiterals(n) {
			lists = append(lists, []int{l}, []int{l, l})
			if n > 0 {
				lists = append(lists, []int{1, l}, []int{l, -n}, []int{n, l, -1})
			}
		}
		for range 2 {
			for _, list := range lists {
				for _, fuel := range []int{0, 1, 1000, api.MaxFuel} {
					refused(list, fuel)
				}
				for _, fuel := range fuels {
					refused(list, fuel)
				}
			}
			for _, fuel := range fuels {
				refused(nil, fuel)
				if n > 0 {
					refused([]int{n, -1}, fuel)
				}
			}
			p.add([]int{}) // now the clauses clash, and all is refused likewise
		}
	}
}

// What is refused changes no later answer.
func TestRefusedSolveChangesNothing(t *testing.T) {
	r := chance()
	for range 200 {
		clauses := [][]int{}
		for range 12 {
			clauses = append(clauses, anyLiterals(r, 5, 1+r.IntN(3)))
		}
		p, o := newPair(t, 5, clauses...), newPair(t, 5, clauses...)
		for range 6 {
			p.s.Solve([]int{1, 6}, 1000)
			p.s.Solve([]int{1, -2}, -1)
			p.s.Solve([]int{-6, 2}, api.MaxFuel+1)
			list := anyLiterals(r, 5, r.IntN(4))
			if a, b := p.enough(list...), o.enough(list...); !isSame(a, b) {
				t.Fatalf("Solve of %v: %v, not %v", list, a, b)
			}
		}
	}
}

func TestNilSolver(t *testing.T) {
	var s *sat.Solver
	for range 2 {
		if v := s.Grow(); v != 0 {
			t.Fatalf("Grow: %d", v)
		}
		for _, list := range [][]int{nil, {}, {1}, {0}, {-1, 1}, {math.MinInt}} {
			if e := s.Add(list); e != api.ErrArg {
				t.Fatalf("Add of %v: %d", list, e)
			}
			for _, fuel := range []int{0, 1, -1, 1000, api.MaxFuel, api.MaxFuel + 1, math.MinInt, math.MaxInt} {
				k, truths, core, used, e := s.Solve(list, fuel)
				if k != 0 || len(truths) != 0 || len(core) != 0 || used != 0 || e != api.ErrArg {
					t.Fatalf("Solve of %v, fuel %d: %d, %v, %v, %d, %d", list, fuel, k, truths, core, used, e)
				}
			}
		}
	}
}

// A solver that New didn't make is one of none.
func TestSolverThatNewDidNotMake(t *testing.T) {
	p := pair{t: t, s: &sat.Solver{}, o: &other{}}
	p.add([]int{1}, []int{0})
	p.isSat()
	p.grow()
	p.grow()
	p.add([]int{1, 2}, []int{-1})
	p.isUnsat([]int{-2}, -2)
	p = pair{t: t, s: &sat.Solver{}, o: &other{}}
	p.add(nil)
	p.isUnsat(nil)
}
