package smt_test

import (
	"math"
	"math/big"
	"math/rand/v2"
	"slices"
	"testing"

	"elenchus/api"
	"elenchus/front"
	"elenchus/smt"
	"elenchus/value"
)

// chance is the same in each run.
func chance() *rand.Rand {
	return rand.New(rand.NewPCG(17, 45))
}

func anyOf[T any](r *rand.Rand, l ...T) T {
	return l[r.IntN(len(l))]
}

// meant is the number that an api.Int stands for, in whatever form it stands.
func meant(a api.Int) *big.Int {
	v := new(big.Int)
	for i := len(a.Abs) - 1; i >= 0; i-- {
		v.Lsh(v, 64)
		v.Or(v, new(big.Int).SetUint64(a.Abs[i]))
	}
	if a.Neg {
		v.Neg(v)
	}
	return v
}

// told is a number in the form in which numbers are told.
func told(n *big.Int) api.Int {
	out := api.Int{Neg: n.Sign() < 0}
	mask := new(big.Int).SetUint64(math.MaxUint64)
	for v := new(big.Int).Abs(n); v.Sign() != 0; v.Rsh(v, 64) {
		out.Abs = append(out.Abs, new(big.Int).And(v, mask).Uint64())
	}
	return out
}

func small(v int64) api.Int {
	return told(big.NewInt(v))
}

func isSameInt(a, b api.Int) bool {
	return a.Neg == b.Neg && slices.Equal(a.Abs, b.Abs)
}

// symbols are those of all texts: x, y, z and p, q, s without numbers, all others with some.
func symbols() []api.Sym {
	return []api.Sym{
		{Name: "x", Sort: api.Whole}, {Name: "y", Sort: api.Whole}, {Name: "z", Sort: api.Whole},
		{Name: "p", Sort: api.Bool}, {Name: "q", Sort: api.Bool}, {Name: "s", Sort: api.Bool},
		{Name: "f", Arity: 1, Sort: api.Whole}, {Name: "g", Arity: 2, Sort: api.Whole}, {Name: "h", Arity: 4, Sort: api.Whole},
		{Name: "b", Arity: 1, Sort: api.Bool}, {Name: "c", Arity: 2, Sort: api.Bool}, {Name: "d", Arity: 4, Sort: api.Bool},
	}
}

// question is what Solve is asked, but for the fuel.
type question struct {
	rows            api.Terms
	asserts, assume []int
}

// read is a question of conditions in the dialect of layer 7.
func read(t *testing.T, asserts, assume string) question {
	t.Helper()
	_, first, _, _ := front.Read(symbols(), asserts)
	r, all, at, e := front.Read(symbols(), asserts+" "+assume)
	if e != api.OK {
		t.Fatalf("%q, %q: error %d at %d", asserts, assume, e, at)
	}
	return question{r, all[:len(first)], all[len(first):]}
}

// of is the question of other conditions over the same rows.
func (q question) of(asserts, assume []int) question {
	return question{q.rows, asserts, assume}
}

// all are all conditions.
func (q question) all() []int {
	return slices.Concat(q.asserts, q.assume)
}

// answer is what Solve answers, beside its error.
type answer struct {
	api.Answer
	used int
}

func isSameTable(a, b api.Table) bool {
	isSameRow := func(x, y api.Row) bool {
		return slices.EqualFunc(x.Args, y.Args, isSameInt) && isSameInt(x.Val, y.Val)
	}
	return slices.EqualFunc(a.Rows, b.Rows, isSameRow) && isSameInt(a.Else, b.Else)
}

func isSame(a, b answer) bool {
	return a.Kind == b.Kind && a.used == b.used && slices.Equal(a.Core, b.Core) && slices.EqualFunc(a.Model.Tables, b.Model.Tables, isSameTable)
}

// ask is Solve's answer, held against what is promised of each answer alone: what isn't told, what was
// used, that all conditions hold by a model, and how those that clash are told.
func (q question) ask(t *testing.T, fuel int) answer {
	t.Helper()
	got, used, e := smt.Solve(q.rows, q.asserts, q.assume, fuel)
	a := answer{got, used}
	switch {
	case e != api.OK:
		t.Fatalf("Solve of %s, fuel %d: error %d", q, fuel, e)
	case used < 0 || used > fuel:
		t.Fatalf("Solve of %s, fuel %d: %d was used", q, fuel, used)
	case a.Kind == api.Sat:
		q.checkModel(t, a)
	case a.Kind == api.Unsat:
		q.checkCore(t, a)
	case a.Kind != api.Unknown || len(a.Model.Tables)+len(a.Core) != 0:
		t.Fatalf("Solve of %s, fuel %d: %d, %v, %v", q, fuel, a.Kind, a.Model, a.Core)
	}
	return a
}

// checkModel fails unless there is a table for each symbol, and all conditions hold by them.
func (q question) checkModel(t *testing.T, a answer) {
	t.Helper()
	if len(a.Model.Tables) != len(q.rows.Syms) || len(a.Core) != 0 {
		t.Fatalf("Solve of %s: Sat, %d tables, %v", q, len(a.Model.Tables), a.Core)
	}
	values, e := value.Eval(q.rows, a.Model)
	if e != api.OK {
		t.Fatalf("Solve of %s: Sat by %v, of which Eval tells %d", q, a.Model, e)
	}
	for _, n := range q.all() {
		if !isSameInt(values[n], small(1)) {
			t.Fatalf("Solve of %s: Sat by %v, but the term %d doesn't hold", q, a.Model, n)
		}
	}
}

// checkCore fails unless some of the assumed numbers are told, each once, in the order in which they stand first.
func (q question) checkCore(t *testing.T, a answer) {
	t.Helper()
	left := distinct(q.assume)
	for _, n := range a.Core {
		at := slices.Index(left, n)
		if at < 0 {
			t.Fatalf("Solve of %s: Unsat by %v of %v", q, a.Core, q.assume)
		}
		left = left[at+1:]
	}
	if len(a.Model.Tables) != 0 {
		t.Fatalf("Solve of %s: Unsat, %v", q, a.Model)
	}
}

// distinct are numbers, each where it stands first.
func distinct(l []int) []int {
	var out []int
	for _, n := range l {
		if !slices.Contains(out, n) {
			out = append(out, n)
		}
	}
	return out
}

// enough is Solve's answer, with as much fuel as there may be; it isn't Unknown.
func (q question) enough(t *testing.T) answer {
	t.Helper()
	a := q.ask(t, api.MaxFuel)
	if a.Kind == api.Unknown {
		t.Fatalf("Solve of %s: Unknown, %d was used", q, a.used)
	}
	return a
}

// near is how far from 0 numbers are tried.
const near = 3

// isLong asks whether a term has a number with which none is tried.
func (q question) isLong() bool {
	return slices.ContainsFunc(q.rows.Terms, func(t api.Term) bool { return meant(t.Num).BitLen() > 24 })
}

// check is Solve's answer, held against models tried one by one: where it is Unsat, there is none by near
// numbers of what is asserted and the core.
func (q question) check(t *testing.T, fuel int) answer {
	t.Helper()
	a := q.ask(t, fuel)
	if a.Kind != api.Unsat || q.isLong() {
		return a
	}
	if values := q.meet(slices.Concat(q.asserts, a.Core), near); values != nil {
		t.Fatalf("Solve of %s: Unsat by %v, but these hold where the terms are %v", q, a.Core, values)
	}
	return a
}

// splits are the same conditions, more and more of them asserted, all others assumed.
func (q question) splits() []question {
	var out []question
	for i := range len(q.all()) + 1 {
		out = append(out, q.of(q.all()[:i], q.all()[i:]))
	}
	return out
}

// sat fails unless the conditions of each text can hold together, whichever of them are assumed.
func sat(t *testing.T, texts ...string) {
	t.Helper()
	for _, text := range texts {
		for _, q := range read(t, text, "").splits() {
			if a := q.enough(t); a.Kind != api.Sat {
				t.Fatalf("%q: Unsat by %v", text, a.Core)
			}
		}
	}
}

// unsat fails unless the conditions of each text clash, whichever of them are assumed.
func unsat(t *testing.T, texts ...string) {
	t.Helper()
	for _, text := range texts {
		for _, q := range read(t, text, "").splits() {
			q.enough(t)
			if a := q.check(t, api.MaxFuel); a.Kind != api.Unsat {
				t.Fatalf("%q: Sat by %v", text, a.Model)
			}
		}
	}
}
