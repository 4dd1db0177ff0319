package branch_test

import (
	"math"
	"math/big"
	"math/rand/v2"
	"slices"
	"testing"

	"elenchus/api"
	"elenchus/branch"
)

// chance is the same in each run.
func chance() *rand.Rand {
	return rand.New(rand.NewPCG(15, 42))
}

func anyOf[T any](r *rand.Rand, l ...T) T {
	return l[r.IntN(len(l))]
}

// meant is the number that an api.Int stands for, in whatever form it stands.
func meant(a api.Int) *big.Int {
	v := new(big.Int)
	for i := len(a.Abs) - 1; i >= 0; i-- {
		v.Lsh(v, 64)
		v.Or(v, new(big.Int).SetUint64(a.Abs[i]))
	}
	if a.Neg {
		v.Neg(v)
	}
	return v
}

// told is a number in the form in which numbers are told.
func told(n *big.Int) api.Int {
	out := api.Int{Neg: n.Sign() < 0}
	mask := new(big.Int).SetUint64(math.MaxUint64)
	for v := new(big.Int).Abs(n); v.Sign() != 0; v.Rsh(v, 64) {
		out.Abs = append(out.Abs, new(big.Int).And(v, mask).Uint64())
	}
	return out
}

// isTold asks whether a number has the form in which numbers are told.
func isTold(a api.Int) bool {
	return isSameInt(a, told(meant(a)))
}

func isSameInt(a, b api.Int) bool {
	return a.Neg == b.Neg && slices.Equal(a.Abs, b.Abs)
}

// of is a number of these words, the lowest first, as they stand.
func of(words ...uint64) api.Int {
	return api.Int{Abs: words}
}

func below(words ...uint64) api.Int {
	return api.Int{Neg: true, Abs: words}
}

// small is a number, told.
func small(v int64) api.Int {
	return told(big.NewInt(v))
}

// long is 10 so many times by itself, and a number more.
func long(digits, more int64) *big.Int {
	out := new(big.Int).Exp(big.NewInt(10), big.NewInt(digits), nil)
	return out.Add(out, big.NewInt(more))
}

// zeros are all forms of 0.
func zeros() []api.Int {
	return []api.Int{{}, {Neg: true}, {Abs: api.Nat{}}, below(), of(0), below(0), of(0, 0, 0), below(0, 0)}
}

// sum is by turns how many times, and which variable.
func sum(parts ...int64) api.Linear {
	out := api.Linear{}
	for i := 0; i < len(parts); i += 2 {
		out.Parts = append(out.Parts, api.Part{Coef: small(parts[i]), Term: int(parts[i+1])})
	}
	return out
}

// dense is a sum of variables from 0 on, each so many times.
func dense(coefs ...int64) api.Linear {
	out := api.Linear{}
	for v, coef := range coefs {
		if coef != 0 {
			out.Parts = append(out.Parts, api.Part{Coef: small(coef), Term: v})
		}
	}
	return out
}

func most(row int, val int64) api.Bound {
	return api.Bound{Row: row, Upper: true, Val: small(val)}
}

func least(row int, val int64) api.Bound {
	return api.Bound{Row: row, Val: small(val)}
}

// problem is what Solve is asked, but for the fuel.
type problem struct {
	vars   int
	rows   []api.Linear
	bounds []api.Bound
}

// of is the problem with other bounds.
func (p problem) of(bounds ...api.Bound) problem {
	p.bounds = bounds
	return p
}

// and is the problem with more bounds.
func (p problem) and(bounds ...api.Bound) problem {
	return p.of(append(slices.Clone(p.bounds), bounds...)...)
}

// only is the problem with some of its bounds.
func (p problem) only(numbers []int) problem {
	var list []api.Bound
	for _, i := range numbers {
		list = append(list, p.bounds[i])
	}
	return p.of(list...)
}

// with is the problem with one row more, which is at least and at most so much.
func (p problem) with(row api.Linear, low, high int64) problem {
	n := len(p.rows)
	p.rows = append(slices.Clone(p.rows), row)
	return p.and(least(n, low), most(n, high))
}

// box is a problem of variables, each of a row of its own, which is at least and at most so much.
func box(sides ...[2]int64) problem {
	p := problem{vars: len(sides)}
	for v, side := range sides {
		p = p.with(sum(1, int64(v)), side[0], side[1])
	}
	return p
}

// answer is what Solve answers, beside its error.
type answer struct {
	kind    int
	numbers []api.Int
	core    []int
	used    int
}

func isSame(a, b answer) bool {
	return a.kind == b.kind && a.used == b.used && slices.EqualFunc(a.numbers, b.numbers, isSameInt) && slices.Equal(a.core, b.core)
}

// ask is Solve's answer, held against what is promised of each answer alone: what isn't told, what was
// used, that all bounds hold, and how bounds that clash are told.
func (p problem) ask(t *testing.T, fuel int) answer {
	t.Helper()
	kind, numbers, core, used, e := branch.Solve(p.vars, p.rows, p.bounds, fuel)
	a := answer{kind, numbers, core, used}
	switch {
	case e != api.OK:
		t.Fatalf("Solve of %v, fuel %d: error %d", p, fuel, e)
	case used < 0 || used > fuel:
		t.Fatalf("Solve of %v, fuel %d: %d was used", p, fuel, used)
	case kind == api.Sat:
		p.checkHolds(t, a)
	case kind == api.Unsat:
		p.checkCore(t, a)
	case kind != api.Unknown:
		t.Fatalf("Solve of %v: %d is no answer", p, kind)
	case len(numbers) != 0 || len(core) != 0:
		t.Fatalf("Solve of %v, fuel %d: Unknown, %v, %v", p, fuel, numbers, core)
	}
	if kind != api.Unknown && used == 0 {
		t.Fatalf("Solve of %v, fuel %d: %d, but layer 14 wasn't asked", p, fuel, kind)
	}
	return a
}

// checkHolds fails unless there is a whole number for each variable, and all bounds hold by them.
func (p problem) checkHolds(t *testing.T, a answer) {
	t.Helper()
	if len(a.numbers) != p.vars || len(a.core) != 0 {
		t.Fatalf("Solve of %v: Sat, %d numbers, %v", p, len(a.numbers), a.core)
	}
	var values []*big.Int
	for _, n := range a.numbers {
		if !isTold(n) {
			t.Fatalf("Solve of %v: %v isn't told as numbers are", p, n)
		}
		values = append(values, meant(n))
	}
	for i := range p.bounds {
		if !p.holds(i, values) {
			t.Fatalf("Solve of %v: Sat by %v, but the bound %d is broken", p, values, i)
		}
	}
}

// holds asks whether a bound does by these values.
func (p problem) holds(bound int, values []*big.Int) bool {
	b, come := p.bounds[bound], new(big.Int)
	for _, part := range p.rows[b.Row].Parts {
		come.Add(come, new(big.Int).Mul(meant(part.Coef), values[part.Term]))
	}
	if b.Upper {
		return come.Cmp(meant(b.Val)) <= 0
	}
	return come.Cmp(meant(b.Val)) >= 0
}

// checkCore fails unless some bounds' numbers are told, rising.
func (p problem) checkCore(t *testing.T, a answer) {
	t.Helper()
	if len(a.numbers) != 0 || len(a.core) == 0 {
		t.Fatalf("Solve of %v: Unsat, %v, %v", p, a.numbers, a.core)
	}
	last := -1
	for _, i := range a.core {
		if i <= last || i >= len(p.bounds) {
			t.Fatalf("Solve of %v: Unsat by %v", p, a.core)
		}
		last = i
	}
}

// enough is Solve's answer, with as much fuel as there may be; it isn't Unknown.
func (p problem) enough(t *testing.T) answer {
	t.Helper()
	a := p.ask(t, api.MaxFuel)
	if a.kind == api.Unknown {
		t.Fatalf("Solve of %v: Unknown, %d was used", p, a.used)
	}
	return a
}

// check is Solve's answer, held against whole numbers tried one by one: where it is Unsat, no such meet
// the bounds that are told.
func (p problem) check(t *testing.T, fuel int) answer {
	t.Helper()
	a := p.ask(t, fuel)
	if a.kind != api.Unsat {
		return a
	}
	if values := p.only(a.core).meet(); values != nil {
		t.Fatalf("Solve of %v: Unsat by %v, but %v meet these", p, a.core, values)
	}
	return a
}

// solve is the answer of one that isn't Unknown, held against whole numbers tried one by one.
func (p problem) solve(t *testing.T) answer {
	t.Helper()
	p.enough(t)
	return p.check(t, api.MaxFuel)
}

func (p problem) isSat(t *testing.T) answer {
	t.Helper()
	a := p.solve(t)
	if a.kind != api.Sat {
		t.Fatalf("Solve of %v: %d, %v, but it is Sat", p, a.kind, a.core)
	}
	return a
}

// isUnsat fails unless it is Unsat by just these bounds: it is for where no others would be right.
func (p problem) isUnsat(t *testing.T, core ...int) {
	t.Helper()
	if a := p.solve(t); a.kind != api.Unsat || !slices.Equal(a.core, core) {
		t.Fatalf("Solve of %v: %d, %v, but it is Unsat by %v", p, a.kind, a.core, core)
	}
}

// clashes fails unless it is Unsat, whichever bounds are told.
func (p problem) clashes(t *testing.T) answer {
	t.Helper()
	a := p.solve(t)
	if a.kind != api.Unsat {
		t.Fatalf("Solve of %v: %d, but it is Unsat", p, a.kind)
	}
	return a
}
