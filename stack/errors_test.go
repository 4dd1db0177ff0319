package stack_test

import (
	"math"
	"slices"
	"strconv"
	"testing"

	"elenchus/api"
	"elenchus/pool"
	"elenchus/stack"
)

// refused fails unless Run answers this error, and nothing beside it.
func (k task) refused(t *testing.T, fuel int, want api.Errno) {
	t.Helper()
	answers, used, e := stack.Run(k.rows, k.cmds, fuel)
	if e != want || len(answers) != 0 || used != 0 {
		t.Fatalf("Run of %s, fuel %d: %v, %d, error %d, but its error is %d", k, fuel, answers, used, e, want)
	}
}

// plain is a task with which nothing is wrong, of each command; its first terms are p, x, y, that x is at
// most y, and that p isn't so.
func plain(t *testing.T) task {
	t.Helper()
	k := read(t, "assert p (<= x y) (not p)")
	return k.with(cmd(api.CmdCheck, 0), cmd(api.CmdAssert, 0), cmd(api.CmdPush), cmd(api.CmdCheck, 4, 3), cmd(api.CmdAssert, 3, 4), cmd(api.CmdCheck), cmd(api.CmdPop), cmd(api.CmdCheck, 3), cmd(api.CmdPush))
}

// The terms of plain that are of Whole.
const (
	termX = 1
	termY = 2
)

func TestPlain(t *testing.T) {
	k := plain(t)
	k.tell(t, "sat, unsat 0, unsat, sat", 1000)
	for n, term := range k.rows.Terms {
		if want := n == termX || n == termY; want != (term.Op == api.OpApp && (term.Sym == symX || term.Sym == symY)) {
			t.Fatalf("the term %d is %v", n, term)
		}
	}
}

func notFuel() []int {
	return []int{-1, -2, api.MaxFuel + 1, api.MaxFuel + 2, 1 << 32, 1<<32 + 1, -1 << 32, math.MaxInt, math.MinInt, math.MinInt + 1}
}

func allowedFuel() []int {
	return []int{0, 1, 2, 1000, api.MaxFuel - 1, api.MaxFuel}
}

// notTerms are numbers of no terms, of rows of so many.
func notTerms(count int) []int {
	return []int{-1, -2, count, count + 1, api.MaxTerms, 1 << 32, -1 << 32, math.MaxInt, math.MinInt}
}

// faulty are rows of plain's terms, with which something is wrong, and the error that tells it.
func faulty(t *testing.T) map[string]struct {
	rows api.Terms
	err  api.Errno
} {
	r := plain(t).rows
	syms := func(more ...api.Sym) api.Terms {
		return api.Terms{Syms: slices.Concat(symbols(), more), Terms: r.Terms}
	}
	terms := func(more ...api.Term) api.Terms {
		return api.Terms{Syms: r.Syms, Terms: slices.Concat(r.Terms, more)}
	}
	not := func(part int) api.Term { return api.Term{Op: api.OpNot, Args: []int{part}} }
	var manySyms []api.Sym
	for n := range api.MaxSyms {
		manySyms = append(manySyms, api.Sym{Name: "s" + strconv.Itoa(n), Sort: api.Bool})
	}
	var manyTerms []api.Term
	for n := range api.MaxTerms {
		manyTerms = append(manyTerms, api.Term{Op: api.OpNum, Num: small(n)})
	}
	return map[string]struct {
		rows api.Terms
		err  api.Errno
	}{
		"symbols too many":     {syms(manySyms...), api.ErrLong},
		"a symbol of no name":  {syms(api.Sym{Sort: api.Bool}), api.ErrForm},
		"a symbol of no sort":  {syms(api.Sym{Name: "n"}), api.ErrForm},
		"an Arity too great":   {syms(api.Sym{Name: "n", Arity: api.MaxArity + 1, Sort: 1}), api.ErrForm},
		"two of a name":        {syms(api.Sym{Name: "p", Sort: api.Bool}), api.ErrName},
		"no Op":                {terms(api.Term{}), api.ErrForm},
		"an Op too great":      {terms(api.Term{Op: 14}), api.ErrForm},
		"a Num of OpNot":       {terms(api.Term{Op: api.OpNot, Num: small(1), Args: []int{0}}), api.ErrForm},
		"a Sym of OpNot":       {terms(api.Term{Op: api.OpNot, Sym: 1, Args: []int{0}}), api.ErrForm},
		"a term twice":         {terms(r.Terms[0]), api.ErrForm},
		"no symbol":            {terms(api.Term{Op: api.OpApp, Sym: len(r.Syms)}), api.ErrName},
		"a part of its own":    {terms(not(len(r.Terms))), api.ErrArg},
		"a part below 0":       {terms(not(-1)), api.ErrArg},
		"OpAnd of one":         {terms(api.Term{Op: api.OpAnd, Args: []int{0}}), api.ErrCount},
		"parts too many":       {terms(api.Term{Op: api.OpAnd, Args: make([]int, api.MaxArgs+1)}), api.ErrCount},
		"no part of f":         {terms(api.Term{Op: api.OpApp, Sym: symF}), api.ErrCount},
		"OpNot of a number":    {terms(not(termX)), api.ErrSort},
		"terms too many":       {terms(manyTerms...), api.ErrLong},
		"two things are wrong": {terms(not(termX), api.Term{}), api.ErrSort},
	}
}

// Rows that may not be are refused, whatever else is wrong.
func TestFaultyRows(t *testing.T) {
	for name, c := range faulty(t) {
		t.Run(name, func(t *testing.T) {
			if e := pool.Check(c.rows); e != c.err {
				t.Fatalf("Check: error %d, not %d", e, c.err)
			}
			k := taskOf(c.rows)
			for _, fuel := range append(notFuel(), allowedFuel()...) {
				k.refused(t, fuel, c.err)
				k.with(plain(t).cmds...).refused(t, fuel, c.err)
				k.with(cmd(api.CmdPop)).refused(t, fuel, c.err)
			}
			for i, f := range faults(t) {
				k.with(f.cmd).refused(t, []int{1000, -1}[i%2], c.err)
			}
		})
	}
}

// Fuel that may not be is refused ahead of whatever is wrong with commands.
func TestFuels(t *testing.T) {
	k := plain(t)
	for _, k := range []task{k, k.with(), taskOf(api.Terms{}), taskOf(api.Terms{}, cmd(api.CmdCheck))} {
		for _, fuel := range allowedFuel() {
			k.run(t, fuel)
		}
		for _, fuel := range notFuel() {
			k.refused(t, fuel, api.ErrArg)
			for _, f := range faults(t) {
				k.with(f.cmd).refused(t, fuel, api.ErrArg)
				k.with(append(k.cmds, f.cmd)...).refused(t, fuel, api.ErrArg)
			}
		}
	}
}

// fault is a command with which something is wrong, and the error that tells it.
type fault struct {
	cmd api.Cmd
	err api.Errno
}

// faults are all but a pop too many, of plain's rows.
func faults(t *testing.T) []fault {
	t.Helper()
	var out []fault
	lists := [][]int{nil, {0}, {0, 3, 4}, {termX}, {-1}, {0, math.MaxInt, termX}}
	for _, terms := range lists {
		for _, kind := range []int{0, -1, 5, 6, 1<<32 + 3, 1<<32 + 4, math.MaxInt, math.MinInt} {
			out = append(out, fault{cmd(kind, terms...), api.ErrForm})
		}
		if len(terms) > 0 {
			out = append(out, fault{cmd(api.CmdPush, terms...), api.ErrForm}, fault{cmd(api.CmdPop, terms...), api.ErrForm})
		}
	}
	count := len(plain(t).rows.Terms)
	for _, kind := range []int{api.CmdAssert, api.CmdCheck} {
		for _, n := range notTerms(count) {
			for _, terms := range [][]int{{n}, {n, 0, 3}, {0, n, 3}, {0, 3, n}, {n, n}, {n, termX}, {termX, n}, {0, termX, termY, n}} {
				out = append(out, fault{cmd(kind, terms...), api.ErrArg})
			}
		}
		for _, n := range []int{termX, termY} {
			for _, terms := range [][]int{{n}, {n, 0, 3}, {0, n, 3}, {0, 3, n}, {n, n}} {
				out = append(out, fault{cmd(kind, terms...), api.ErrSort})
			}
		}
	}
	return out
}

// A command with which something is wrong is refused alone, and wherever it stands among others: behind
// checks that were answered, too.
func TestFaultyCommands(t *testing.T) {
	k := plain(t)
	for _, f := range faults(t) {
		for _, fuel := range []int{0, 1, 1000, api.MaxFuel} {
			k.with(f.cmd).refused(t, fuel, f.err)
		}
		for i := range len(k.cmds) + 1 {
			k.with(slices.Insert(slices.Clone(k.cmds), i, f.cmd)...).refused(t, 1000, f.err)
		}
	}
}

// Terms that may not stand with a push or a pop are counted ahead of a level too little.
func TestPopsTooMany(t *testing.T) {
	push, pop, none := cmd(api.CmdPush), cmd(api.CmdPop), api.Cmd{Kind: api.CmdPop, Terms: []int{}}
	k := plain(t)
	for _, cmds := range [][]api.Cmd{{pop}, {none}, {push, pop, pop}, {push, push, pop, none, pop}, {push, pop, push, pop, pop, push}, {cmd(api.CmdAssert, 0), pop}, {cmd(api.CmdCheck), pop, push}, {cmd(api.CmdAssert, 3), push, cmd(api.CmdAssert, 0), pop, cmd(api.CmdCheck, 4), pop, cmd(api.CmdCheck)}} {
		for _, fuel := range allowedFuel() {
			k.with(cmds...).refused(t, fuel, api.ErrCount)
		}
	}
	for _, terms := range [][]int{{0}, {termX}, {-1}, {0, 0, 3}} {
		k.with(cmd(api.CmdPop, terms...)).refused(t, 1000, api.ErrForm)
		k.with(push, pop, cmd(api.CmdPop, terms...)).refused(t, 1000, api.ErrForm)
	}
	k.with(push, pop).run(t, 1000)
	k.with(api.Cmd{Kind: api.CmdPush, Terms: []int{}}, none).run(t, 1000)
}

// Of several commands with which something is wrong the first one counts.
func TestWhichErrorComes(t *testing.T) {
	k := plain(t)
	all := append(faults(t), fault{cmd(api.CmdPop), api.ErrCount})
	for _, first := range all {
		for _, other := range all {
			k.with(first.cmd, other.cmd).refused(t, 1000, first.err)
		}
	}
	for i, first := range all {
		other := all[(i*7+5)%len(all)]
		k.with(cmd(api.CmdCheck, 0), cmd(api.CmdAssert, 4), first.cmd, cmd(api.CmdCheck), other.cmd, cmd(api.CmdCheck, 3)).refused(t, 1000, first.err)
	}
}

// In rows without terms each number is none.
func TestNoTerms(t *testing.T) {
	for _, r := range []api.Terms{{}, {Syms: symbols(), Terms: []api.Term{}}} {
		for _, n := range notTerms(0) {
			for _, kind := range []int{api.CmdAssert, api.CmdCheck} {
				taskOf(r, cmd(api.CmdCheck), cmd(kind, n)).refused(t, 1000, api.ErrArg)
			}
		}
	}
}

// Each term may be asserted, and assumed, just if layer 4 tells that it is of Bool.
func TestSorts(t *testing.T) {
	k := read(t, "assert (= (f x) (+ x y 1)) (ite p q (b x)) (<= (ite p x y) (* 3 x)) (or p (xor q p)) true (not false) (= (f (- 2)) 5)")
	p, e := pool.New(k.rows.Syms)
	ops := map[[2]int]int{}
	for n, term := range k.rows.Terms {
		p.Make(term)
		sort, _ := p.Sort(n)
		ops[[2]int{term.Op, sort}]++
		for _, kind := range []int{api.CmdAssert, api.CmdCheck} {
			one := k.with(cmd(kind, n), cmd(api.CmdCheck))
			if sort == api.Bool {
				one.enough(t)
			} else {
				one.refused(t, 1000, api.ErrSort)
			}
		}
	}
	if e != api.OK || len(ops) < 14 {
		t.Fatalf("error %d, or too few Ops and sorts: %v", e, ops)
	}
}

// What is wrong behind very many checks, none of them easy, is told like all else.
func TestFaultBehindManyChecks(t *testing.T) {
	k := read(t, "assert (= x (* 2 y)) (= x (+ (* 2 (f 0)) 1))", "check")
	checks := slices.Repeat(k.cmds[1:], 100000)
	k.with(slices.Concat(k.cmds[:1], checks, []api.Cmd{cmd(api.CmdPop)})...).refused(t, api.MaxFuel, api.ErrCount)
}
