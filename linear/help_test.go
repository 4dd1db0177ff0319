package linear_test

import (
	"math"
	"math/big"
	"slices"
	"strconv"
	"testing"

	"elenchus/api"
	"elenchus/linear"
	"elenchus/pool"
)

// meant is the number that an api.Int stands for, in whatever form it stands.
func meant(a api.Int) *big.Int {
	v := new(big.Int)
	for i := len(a.Abs) - 1; i >= 0; i-- {
		v.Lsh(v, 64)
		v.Or(v, new(big.Int).SetUint64(a.Abs[i]))
	}
	if a.Neg {
		v.Neg(v)
	}
	return v
}

// told is a number in the form in which numbers are told.
func told(n *big.Int) api.Int {
	out := api.Int{Neg: n.Sign() < 0}
	mask := new(big.Int).SetUint64(math.MaxUint64)
	for v := new(big.Int).Abs(n); v.Sign() != 0; v.Rsh(v, 64) {
		out.Abs = append(out.Abs, new(big.Int).And(v, mask).Uint64())
	}
	return out
}

// isTold asks whether a number is this one, in just the form in which numbers are told.
func isTold(got api.Int, want *big.Int) bool {
	w := told(want)
	return got.Neg == w.Neg && slices.Equal(got.Abs, w.Abs)
}

// isNothing asks whether a number is the zero value of its type.
func isNothing(a api.Int) bool {
	return !a.Neg && len(a.Abs) == 0
}

// isNoSum asks whether a sum is the zero value of its type.
func isNoSum(l api.Linear) bool {
	return len(l.Parts) == 0 && isNothing(l.Const)
}

// of is a number of these words, the lowest first, as they stand.
func of(words ...uint64) api.Int {
	return api.Int{Abs: words}
}

func below(words ...uint64) api.Int {
	return api.Int{Neg: true, Abs: words}
}

// small is a number, told.
func small(v int64) api.Int {
	return told(big.NewInt(v))
}

// zeros are all forms of 0.
func zeros() []api.Int {
	return []api.Int{{}, {Neg: true}, {Abs: api.Nat{}}, below(), of(0), below(0), of(0, 0, 0), below(0, 0)}
}

// formsOf are some forms of a number.
func formsOf(n *big.Int) []api.Int {
	if n.Sign() == 0 {
		return zeros()
	}
	v := told(n)
	one, more := v, v
	one.Abs = append(slices.Clone(v.Abs), 0)
	more.Abs = append(slices.Clone(v.Abs), 0, 0, 0)
	return []api.Int{v, one, more}
}

// someNumbers are small ones, and great ones, at the ends of words.
func someNumbers() []*big.Int {
	var out []*big.Int
	for _, text := range []string{"0", "1", "2", "3", "7", "12", "18446744073709551615", "18446744073709551616", "18446744073709551617", "340282366920938463463374607431768211455", "340282366920938463463374607431768211456"} {
		v, _ := new(big.Int).SetString(text, 10)
		out = append(out, v)
		if v.Sign() != 0 {
			out = append(out, new(big.Int).Neg(v))
		}
	}
	return out
}

func named(name string, arity, sort int) api.Sym {
	return api.Sym{Name: name, Arity: arity, Sort: sort}
}

func term(op int, args ...int) api.Term {
	return api.Term{Op: op, Args: args}
}

func num(v api.Int) api.Term {
	return api.Term{Op: api.OpNum, Num: v}
}

func mul(v api.Int, part int) api.Term {
	return api.Term{Op: api.OpMul, Num: v, Args: []int{part}}
}

func app(sym int, args ...int) api.Term {
	return api.Term{Op: api.OpApp, Sym: sym, Args: args}
}

// symbols are as many as are asked for, all of them unlike: those of odd numbers are of Whole.
func symbols(count int) []api.Sym {
	var out []api.Sym
	for i := range count {
		out = append(out, named("s"+strconv.Itoa(i), i%5, 1+i%2))
	}
	return out
}

// part is a term, so many times.
func part(times api.Int, term int) api.Part {
	return api.Part{Coef: times, Term: term}
}

// sum are parts, and Const.
func sum(constant api.Int, parts ...api.Part) api.Linear {
	return api.Linear{Parts: parts, Const: constant}
}

// smallSum is Const, then by turns how many times, and which term.
func smallSum(constant int64, parts ...int64) api.Linear {
	out := api.Linear{Const: small(constant)}
	for i := 0; i < len(parts); i += 2 {
		out.Parts = append(out.Parts, part(small(parts[i]), int(parts[i+1])))
	}
	return out
}

// account is a sum in another way than the program's: how many times which term, and the rest.
type account struct {
	times map[int]*big.Int
	rest  *big.Int
}

func newAccount() account {
	return account{map[int]*big.Int{}, new(big.Int)}
}

func (a account) at(term int) *big.Int {
	if a.times[term] == nil {
		a.times[term] = new(big.Int)
	}
	return a.times[term]
}

// enter adds a list of parts, so many times.
func (a account) enter(l api.Linear, times *big.Int) {
	for _, p := range l.Parts {
		a.at(p.Term).Add(a.at(p.Term), new(big.Int).Mul(meant(p.Coef), times))
	}
	a.rest.Add(a.rest, new(big.Int).Mul(meant(l.Const), times))
}

// terms are those that don't come to 0, rising.
func (a account) terms() []int {
	var out []int
	for t, times := range a.times {
		if times.Sign() != 0 {
			out = append(out, t)
		}
	}
	slices.Sort(out)
	return out
}

// isSum asks whether a sum is just this one, as sums and numbers are told.
func (a account) isSum(l api.Linear) bool {
	terms := a.terms()
	if len(l.Parts) != len(terms) || !isTold(l.Const, a.rest) {
		return false
	}
	for i, t := range terms {
		if l.Parts[i].Term != t || !isTold(l.Parts[i].Coef, a.times[t]) {
			return false
		}
	}
	return true
}

// accountOf is a list of parts as a sum.
func accountOf(l api.Linear) account {
	a := newAccount()
	a.enter(l, big.NewInt(1))
	return a
}

// expectedOf is a term's sum: from the term on downwards, how many times each term is taken.
func expectedOf(r api.Terms, t int) account {
	a := newAccount()
	taken := make([]*big.Int, t+1)
	for i := range taken {
		taken[i] = new(big.Int)
	}
	taken[t].SetInt64(1)
	for n := t; n >= 0; n-- {
		factor := taken[n]
		switch r.Terms[n].Op {
		case 3:
			a.rest.Add(a.rest, new(big.Int).Mul(factor, meant(r.Terms[n].Num)))
			continue
		case 13:
			factor = new(big.Int).Mul(factor, meant(r.Terms[n].Num))
		case 12:
		default:
			a.at(n).Add(a.at(n), factor)
			continue
		}
		for _, p := range r.Terms[n].Args {
			taken[p].Add(taken[p], factor)
		}
	}
	return a
}

// laid are rows that are put together term by term.
type laid struct {
	t *testing.T
	p *pool.Pool
}

func lay(t *testing.T, syms ...api.Sym) laid {
	t.Helper()
	p, err := pool.New(syms)
	if err != api.OK {
		t.Fatalf("New of %v: error %d", syms, err)
	}
	return laid{t, p}
}

// add is the number of a term.
func (l laid) add(what api.Term) int {
	l.t.Helper()
	n, err := l.p.Make(what)
	if err != api.OK {
		l.t.Fatalf("Make of %v: error %d", what, err)
	}
	return n
}

// check fails unless a term's sum is this one.
func (l laid) check(t int, want api.Linear) {
	l.t.Helper()
	r := l.p.Rows()
	checkOf(l.t, r, t, accountOf(want))
	checkAll(l.t, r)
}

// checkOf fails unless a term's sum is just this one.
func checkOf(t *testing.T, r api.Terms, n int, want account) {
	t.Helper()
	if got, err := linear.Of(r, n); err != api.OK || !want.isSum(got) {
		t.Fatalf("Of of %d of %v: %v, error %d, but it is %v", n, r, got, err, want)
	}
}

// checkAll fails unless all terms' sums are as the document asks, Of's and All's.
func checkAll(t *testing.T, r api.Terms) {
	t.Helper()
	sorts := sortsOf(t, r)
	all, err := linear.All(r)
	if err != api.OK || len(all) != len(r.Terms) {
		t.Fatalf("All of %v: %d sums, error %d", r, len(all), err)
	}
	for n, got := range all {
		if sorts[n] == api.Bool {
			checkNoNumber(t, r, n, got)
			continue
		}
		want := expectedOf(r, n)
		if !want.isSum(got) {
			t.Fatalf("All of %v: of the number %d it tells %v, but its sum is %v", r, n, got, want)
		}
		checkOf(t, r, n, want)
	}
}

// checkNoNumber fails unless a term of Bool has no sum.
func checkNoNumber(t *testing.T, r api.Terms, n int, told api.Linear) {
	t.Helper()
	if !isNoSum(told) {
		t.Fatalf("All of %v: of the number %d of Bool it tells %v", r, n, told)
	}
	if got, err := linear.Of(r, n); err != api.ErrSort || !isNoSum(got) {
		t.Fatalf("Of of %d of %v: %v, error %d, but it is of Bool", n, r, got, err)
	}
}

// sortsOf are all terms' sorts, as layer 4 tells them.
func sortsOf(t *testing.T, r api.Terms) []int {
	t.Helper()
	l := lay(t, r.Syms...)
	var out []int
	for _, what := range r.Terms {
		sort, err := l.p.Sort(l.add(what))
		if err != api.OK {
			t.Fatalf("Sort of %v: error %d", what, err)
		}
		out = append(out, sort)
	}
	return out
}
