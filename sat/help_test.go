package sat_test

import (
	"math"
	"math/rand/v2"
	"slices"
	"testing"

	"elenchus/api"
	"elenchus/sat"
)

// chance is the same in each run.
func chance() *rand.Rand {
	return rand.New(rand.NewPCG(13, 31))
}

// other is clauses whose truths are tried one by one, as bits of a number.
type other struct {
	n       int
	clauses [][]int
}

func isTrue(truths uint, l int) bool {
	if l < 0 {
		return truths>>(-l-1)&1 == 0
	}
	return truths>>(l-1)&1 == 1
}

func someHold(truths uint, clause []int) bool {
	return slices.ContainsFunc(clause, func(l int) bool { return isTrue(truths, l) })
}

// can tells whether some truths make all clauses and all of a list hold.
func (o *other) can(list []int) bool {
	fails := func(truths uint) bool {
		return slices.ContainsFunc(list, func(l int) bool { return !isTrue(truths, l) }) ||
			slices.ContainsFunc(o.clauses, func(c []int) bool { return !someHold(truths, c) })
	}
	for truths := range uint(1) << o.n {
		if !fails(truths) {
			return true
		}
	}
	return false
}

func (o *other) isLiteral(l int) bool {
	return l != 0 && l >= -o.n && l <= o.n
}

// pair is a solver and its clauses, to which all is told alike.
type pair struct {
	t *testing.T
	s *sat.Solver
	o *other
}

// newPair is a pair of n variables and these clauses.
func newPair(t *testing.T, n int, clauses ...[]int) pair {
	t.Helper()
	p := pair{t: t, s: sat.New(n), o: &other{n: n}}
	p.add(clauses...)
	return p
}

func (p pair) grow() {
	p.t.Helper()
	p.o.n++
	if got := p.s.Grow(); got != p.o.n {
		p.t.Fatalf("Grow: %d, but it is %d", got, p.o.n)
	}
}

// add holds Add's answer against what is a literal; what is refused isn't a clause of the pair's.
func (p pair) add(clauses ...[]int) {
	p.t.Helper()
	for _, c := range clauses {
		want := api.OK
		if slices.ContainsFunc(c, func(l int) bool { return !p.o.isLiteral(l) }) {
			want = api.ErrArg
		} else {
			p.o.clauses = append(p.o.clauses, slices.Clone(c))
		}
		if e := p.s.Add(c); e != want {
			p.t.Fatalf("Add of %v, of %d variables: %d, but it is %d", c, p.o.n, e, want)
		}
	}
}

// anew is a pair of a solver that is told the same clauses and nothing else.
func (p pair) anew() pair {
	p.t.Helper()
	return newPair(p.t, p.o.n, p.o.clauses...)
}

// answer is what Solve answers, beside its error.
type answer struct {
	kind   int
	truths []bool
	core   []int
	used   int
}

func isSame(a, b answer) bool {
	return a.kind == b.kind && a.used == b.used && slices.Equal(a.truths, b.truths) && slices.Equal(a.core, b.core)
}

// asked is Solve's answer, whose form is held against what is promised of it: what isn't told, what was
// used, that truths make all hold, and that assumptions are told as they should be.
func (p pair) asked(assume []int, fuel int) answer {
	p.t.Helper()
	kind, truths, core, used, e := p.s.Solve(assume, fuel)
	a := answer{kind: kind, truths: truths, core: core, used: used}
	switch {
	case e != api.OK:
		p.t.Fatalf("Solve of %v, fuel %d: error %d", assume, fuel, e)
	case used < 0 || used > fuel:
		p.t.Fatalf("Solve of %v, fuel %d: %d was used", assume, fuel, used)
	case kind == api.Sat:
		p.holds(assume, a)
	case kind == api.Unsat:
		p.isCore(assume, a)
	case kind != api.Unknown:
		p.t.Fatalf("Solve of %v: %d is no answer", assume, kind)
	case len(truths) != 0 || len(core) != 0 || used != fuel:
		p.t.Fatalf("Solve of %v, fuel %d: Unknown, %v, %v, %d was used", assume, fuel, truths, core, used)
	}
	return a
}

func (p pair) holds(assume []int, a answer) {
	p.t.Helper()
	if len(a.truths) != p.o.n || len(a.core) != 0 {
		p.t.Fatalf("Solve of %v: Sat, %d truths of %d variables, %v", assume, len(a.truths), p.o.n, a.core)
	}
	fails := func(l int) bool { return a.truths[max(l, -l)-1] != (l > 0) }
	if slices.ContainsFunc(assume, fails) {
		p.t.Fatalf("Solve of %v: an assumption fails by %v", assume, a.truths)
	}
	for _, c := range p.o.clauses {
		if !slices.ContainsFunc(c, func(l int) bool { return !fails(l) }) {
			p.t.Fatalf("Solve of %v: the clause %v fails by %v", assume, c, a.truths)
		}
	}
}

// isCore fails unless what is told are some of the assumptions, in the order in which they stand first.
func (p pair) isCore(assume []int, a answer) {
	p.t.Helper()
	if len(a.truths) != 0 {
		p.t.Fatalf("Solve of %v: Unsat, %v", assume, a.truths)
	}
	last := -1
	for _, l := range a.core {
		at := slices.Index(assume, l)
		if at <= last {
			p.t.Fatalf("Solve of %v: Unsat by %v, of which %d is no assumption, or stands elsewhere", assume, a.core, l)
		}
		last = at
	}
}

// solve is Solve's answer, held against all truths.
func (p pair) solve(assume []int, fuel int) answer {
	p.t.Helper()
	a := p.asked(assume, fuel)
	switch can := p.o.can(assume); {
	case a.kind == api.Sat && !can:
		p.t.Fatalf("Sat of %v, of the clauses %v", assume, p.o.clauses)
	case a.kind != api.Unsat:
	case can:
		p.t.Fatalf("Unsat of %v, of the clauses %v", assume, p.o.clauses)
	case p.o.can(a.core):
		p.t.Fatalf("Unsat of %v by %v, which don't clash with the clauses %v", assume, a.core, p.o.clauses)
	case len(a.core) > 0 && !p.o.can(nil):
		p.t.Fatalf("Unsat of %v by %v, but the clauses %v clash alone", assume, a.core, p.o.clauses)
	}
	return a
}

// enough is Solve's answer with all fuel that there may be, held against all truths; it isn't Unknown.
func (p pair) enough(assume ...int) answer {
	p.t.Helper()
	a := p.solve(assume, api.MaxFuel)
	if a.kind == api.Unknown {
		p.t.Fatalf("Unknown: %v, of the clauses %v of %d variables", assume, p.o.clauses, p.o.n)
	}
	return a
}

// clashes fails unless it is Unsat.
func (p pair) clashes(assume ...int) {
	p.t.Helper()
	if a := p.enough(assume...); a.kind != api.Unsat {
		p.t.Fatalf("Solve of %v, of the clauses %v: %d, but it is Unsat", assume, p.o.clauses, a.kind)
	}
}

// isUnsat fails unless it is Unsat by just these assumptions: it is for where no others would be right.
func (p pair) isUnsat(assume []int, core ...int) {
	p.t.Helper()
	if a := p.enough(assume...); a.kind != api.Unsat || !slices.Equal(a.core, core) {
		p.t.Fatalf("Solve of %v, of the clauses %v: %d, %v, but it is Unsat by %v", assume, p.o.clauses, a.kind, a.core, core)
	}
}

func (p pair) isSat(assume ...int) {
	p.t.Helper()
	if a := p.enough(assume...); a.kind != api.Sat {
		p.t.Fatalf("Solve of %v, of the clauses %v: %d, but it is Sat", assume, p.o.clauses, a.kind)
	}
}

// noLiterals are none of n variables.
func noLiterals(n int) []int {
	return []int{0, n + 1, -n - 1, n + 2, -n - 2, n + 64, 1<<32 + 1, -1<<32 - 1, math.MaxInt, math.MinInt, math.MinInt + 1}
}

// anyLiteral is one of variables 1 to n, which are some.
func anyLiteral(r *rand.Rand, n int) int {
	l := 1 + r.IntN(n)
	if r.IntN(2) == 0 {
		return -l
	}
	return l
}

func anyLiterals(r *rand.Rand, n, length int) []int {
	list := []int{}
	for range length {
		list = append(list, anyLiteral(r, n))
	}
	return list
}

// allClauses are all of n variables that have no variable twice, by their lengths.
func allClauses(n int) [][][]int {
	byLength := make([][][]int, n+1)
	count := 1
	for range n {
		count *= 3
	}
	for kind := range count {
		clause := []int{}
		for v, rest := 1, kind; v <= n; v, rest = v+1, rest/3 {
			switch rest % 3 {
			case 1:
				clause = append(clause, v)
			case 2:
				clause = append(clause, -v)
			}
		}
		byLength[len(clause)] = append(byLength[len(clause)], clause)
	}
	return byLength
}

func shuffle[T any](r *rand.Rand, list []T) {
	r.Shuffle(len(list), func(i, j int) { list[i], list[j] = list[j], list[i] })
}

// pigeons are clauses by which each of some sits in one of fewer places, no two in the same: they clash,
// but it takes long to find out.
func pigeons(count, places int) (int, [][]int) {
	in := func(i, j int) int { return i*places + j + 1 }
	var out [][]int
	for i := range count {
		somewhere := []int{}
		for j := range places {
			somewhere = append(somewhere, in(i, j))
			for k := range i {
				out = append(out, []int{-in(i, j), -in(k, j)})
			}
		}
		out = append(out, somewhere)
	}
	return count * places, out
}
