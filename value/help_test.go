package value_test

import (
	"math"
	"math/big"
	"slices"
	"strconv"
	"testing"

	"elenchus/api"
	"elenchus/pool"
	"elenchus/value"
)

// meant is the number that an api.Int stands for, in whatever form it stands.
func meant(a api.Int) *big.Int {
	v := new(big.Int)
	for i := len(a.Abs) - 1; i >= 0; i-- {
		v.Lsh(v, 64)
		v.Or(v, new(big.Int).SetUint64(a.Abs[i]))
	}
	if a.Neg {
		v.Neg(v)
	}
	return v
}

// told is a number in the form in which numbers are told.
func told(n *big.Int) api.Int {
	out := api.Int{Neg: n.Sign() < 0}
	mask := new(big.Int).SetUint64(math.MaxUint64)
	for v := new(big.Int).Abs(n); v.Sign() != 0; v.Rsh(v, 64) {
		out.Abs = append(out.Abs, new(big.Int).And(v, mask).Uint64())
	}
	return out
}

// isTold asks whether a number is this one, in just the form in which numbers are told.
func isTold(got api.Int, want *big.Int) bool {
	w := told(want)
	return got.Neg == w.Neg && slices.Equal(got.Abs, w.Abs)
}

// of is a number of these words, the lowest first, as they stand.
func of(words ...uint64) api.Int {
	return api.Int{Abs: words}
}

func below(words ...uint64) api.Int {
	return api.Int{Neg: true, Abs: words}
}

func row(val api.Int, args ...api.Int) api.Row {
	return api.Row{Args: args, Val: val}
}

// constant is a table by which a symbol tells one number.
func constant(v api.Int) api.Table {
	return api.Table{Else: v}
}

// zeros are all forms of 0.
func zeros() []api.Int {
	return []api.Int{{}, {Neg: true}, {Abs: api.Nat{}}, below(), of(0), below(0), of(0, 0, 0), below(0, 0)}
}

// formsOf are some forms of a number.
func formsOf(n *big.Int) []api.Int {
	if n.Sign() == 0 {
		return zeros()
	}
	v := told(n)
	one, more := v, v
	one.Abs = append(slices.Clone(v.Abs), 0)
	more.Abs = append(slices.Clone(v.Abs), 0, 0, 0)
	return []api.Int{v, one, more}
}

// someNumbers are small ones, and great ones, at the ends of words.
func someNumbers() []*big.Int {
	var out []*big.Int
	for _, text := range []string{"0", "1", "2", "3", "7", "18446744073709551615", "18446744073709551616", "18446744073709551617", "340282366920938463463374607431768211455", "340282366920938463463374607431768211456"} {
		v, _ := new(big.Int).SetString(text, 10)
		out = append(out, v)
		if v.Sign() != 0 {
			out = append(out, new(big.Int).Neg(v))
		}
	}
	return out
}

func named(name string, arity, sort int) api.Sym {
	return api.Sym{Name: name, Arity: arity, Sort: sort}
}

func term(op int, args ...int) api.Term {
	return api.Term{Op: op, Args: args}
}

func num(v api.Int) api.Term {
	return api.Term{Op: api.OpNum, Num: v}
}

func mul(v api.Int, part int) api.Term {
	return api.Term{Op: api.OpMul, Num: v, Args: []int{part}}
}

func app(sym int, args ...int) api.Term {
	return api.Term{Op: api.OpApp, Sym: sym, Args: args}
}

// laid are rows that are put together term by term.
type laid struct {
	t *testing.T
	p *pool.Pool
}

func lay(t *testing.T, syms ...api.Sym) laid {
	t.Helper()
	p, err := pool.New(syms)
	if err != api.OK {
		t.Fatalf("New of %v: error %d", syms, err)
	}
	return laid{t, p}
}

// add is the number of a term.
func (l laid) add(what api.Term) int {
	l.t.Helper()
	n, err := l.p.Make(what)
	if err != api.OK {
		l.t.Fatalf("Make of %v: error %d", what, err)
	}
	return n
}

// number is the number of a term that is a number.
func (l laid) number(n *big.Int) int {
	l.t.Helper()
	return l.add(num(told(n)))
}

// truth is the number of the term true, or false.
func (l laid) truth(v bool) int {
	l.t.Helper()
	if v {
		return l.add(term(api.OpTrue))
	}
	return l.add(term(api.OpFalse))
}

// check fails unless a term has this value.
func (l laid) check(n int, want *big.Int, tables ...api.Table) {
	l.t.Helper()
	r := l.p.Rows()
	got, err := value.Eval(r, api.Model{Tables: tables})
	if err != api.OK || len(got) != len(r.Terms) {
		l.t.Fatalf("Eval of %v: %d values, error %d", r, len(got), err)
	}
	if !isTold(got[n], want) {
		l.t.Fatalf("Eval of %v by %v: the number %d is %v, but it is %s", r, tables, n, got[n], want)
	}
}

// checkTruth fails unless a condition holds just so.
func (l laid) checkTruth(n int, want bool, tables ...api.Table) {
	l.t.Helper()
	l.check(n, truth(want), tables...)
	if got, err := value.Holds(l.p.Rows(), api.Model{Tables: tables}, n); got != want || err != api.OK {
		l.t.Fatalf("Holds of %d of %v by %v: %v, %d, but it is %v", n, l.p.Rows(), tables, got, err, want)
	}
}

func truth(v bool) *big.Int {
	if v {
		return big.NewInt(1)
	}
	return big.NewInt(0)
}

// expectedTell is what a symbol tells, in another way than the program's: rows from the last one on.
func expectedTell(s api.Sym, t api.Table, args []*big.Int) *big.Int {
	out := meant(t.Else)
	for i := len(t.Rows) - 1; i >= 0; i-- {
		if standsFor(t.Rows[i].Args, args) {
			out = meant(t.Rows[i].Val)
		}
	}
	if s.Sort == api.Bool {
		return truth(out.Sign() != 0)
	}
	return out
}

func standsFor(l []api.Int, args []*big.Int) bool {
	text := func(n *big.Int) string { return n.String() }
	var a, b []string
	for _, v := range l {
		a = append(a, text(meant(v)))
	}
	for _, n := range args {
		b = append(b, text(n))
	}
	return slices.Equal(a, b)
}

// expected is the value of one term, by the values of those on which it hangs.
func expected(r api.Terms, m api.Model, n int) *big.Int {
	t := r.Terms[n]
	part := func(i int) *big.Int { return expected(r, m, t.Args[i]) }
	var parts []*big.Int
	if t.Op != api.OpIte {
		for i := range t.Args {
			parts = append(parts, part(i))
		}
	}
	switch t.Op {
	case 1:
		return big.NewInt(1)
	case 2:
		return big.NewInt(0)
	case 3:
		return meant(t.Num)
	case 4:
		return expectedTell(r.Syms[t.Sym], m.Tables[t.Sym], parts)
	case 5:
		return new(big.Int).Sub(big.NewInt(1), parts[0])
	case 6:
		return fold(parts, lesser)
	case 7:
		return fold(parts, greater)
	case 8, 10:
		return truth(parts[0].Cmp(parts[1]) == 0)
	case 9:
		return part(2 - int(part(0).Int64()))
	case 11:
		return truth(parts[0].Cmp(parts[1]) < 1)
	case 12:
		return fold(parts, func(a, b *big.Int) *big.Int { return new(big.Int).Add(a, b) })
	}
	return new(big.Int).Mul(meant(t.Num), parts[0])
}

func fold(l []*big.Int, by func(a, b *big.Int) *big.Int) *big.Int {
	out := l[0]
	for _, n := range l[1:] {
		out = by(out, n)
	}
	return out
}

func lesser(a, b *big.Int) *big.Int {
	if a.Cmp(b) < 0 {
		return a
	}
	return b
}

func greater(a, b *big.Int) *big.Int {
	if a.Cmp(b) < 0 {
		return b
	}
	return a
}

// checkEval fails unless all terms have just the values that the document asks for.
func checkEval(t *testing.T, r api.Terms, m api.Model) {
	t.Helper()
	got, err := value.Eval(r, m)
	if err != api.OK || len(got) != len(r.Terms) {
		t.Fatalf("Eval of %v by %v: %d values, error %d", r, m, len(got), err)
	}
	for n := range got {
		if want := expected(r, m, n); !isTold(got[n], want) {
			t.Fatalf("Eval of %v by %v: the number %d is %v, but it is %s", r, m, n, got[n], want)
		}
	}
}

// symbols are as many as are asked for, all of them unlike.
func symbols(count int) []api.Sym {
	var out []api.Sym
	for i := range count {
		out = append(out, named("s"+strconv.Itoa(i), i%5, 1+i%2))
	}
	return out
}

// tables are as many as are asked for.
func tables(count int) api.Model {
	return api.Model{Tables: make([]api.Table, count)}
}
