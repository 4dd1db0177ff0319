package pool_test

import (
	"math"
	"math/big"
	"regexp"
	"slices"
	"strconv"
	"testing"

	"elenchus/api"
	"elenchus/pool"
)

// oracle is a pool in another way than the program's: what is there is looked for one by one.
type oracle struct {
	syms  []api.Sym
	terms []api.Term
	sorts []int
}

// law is a line of the document's table: how many parts, their sorts as a pattern of
// "b" and "w", the term's sort (0: the last part's), and whether Num says something.
type law struct {
	least, most int
	parts       *regexp.Regexp
	sort        int
	num         bool
}

var (
	noParts   = regexp.MustCompile(`^$`)
	allBool   = regexp.MustCompile(`^b*$`)
	allWhole  = regexp.MustCompile(`^w*$`)
	condition = regexp.MustCompile(`^b(ww|bb)$`)
)

// laws are by Op; OpApp's hang on its symbol.
func laws() map[int]law {
	return map[int]law{
		1:  {0, 0, noParts, api.Bool, false},
		2:  {0, 0, noParts, api.Bool, false},
		3:  {0, 0, noParts, api.Whole, true},
		5:  {1, 1, allBool, api.Bool, false},
		6:  {2, 64, allBool, api.Bool, false},
		7:  {2, 64, allBool, api.Bool, false},
		8:  {2, 2, allBool, api.Bool, false},
		9:  {3, 3, condition, 0, false},
		10: {2, 2, allWhole, api.Bool, false},
		11: {2, 2, allWhole, api.Bool, false},
		12: {2, 64, allWhole, api.Whole, false},
		13: {1, 1, allWhole, api.Whole, true},
	}
}

func (o *oracle) lawOf(t api.Term) (law, api.Errno) {
	l, ok := laws()[t.Op]
	if t.Op == api.OpApp {
		l, ok = law{parts: allWhole}, true
	}
	if !ok || !l.num && meant(t.Num).Sign() != 0 || t.Op != api.OpApp && t.Sym != 0 {
		return l, api.ErrForm
	}
	if t.Op != api.OpApp {
		return l, api.OK
	}
	if t.Sym < 0 || t.Sym >= len(o.syms) {
		return l, api.ErrName
	}
	s := o.syms[t.Sym]
	return law{s.Arity, s.Arity, allWhole, s.Sort, false}, api.OK
}

// judge tells a term's sort, or what is wrong with it.
func (o *oracle) judge(t api.Term) (int, api.Errno) {
	l, err := o.lawOf(t)
	if err != api.OK {
		return 0, err
	}
	letters, last := "", 0
	for _, part := range t.Args {
		if part < 0 || part >= len(o.terms) {
			return 0, api.ErrArg
		}
		last = o.sorts[part]
		letters += map[int]string{api.Bool: "b", api.Whole: "w"}[last]
	}
	if len(t.Args) < l.least || len(t.Args) > l.most {
		return 0, api.ErrCount
	}
	if !l.parts.MatchString(letters) {
		return 0, api.ErrSort
	}
	if l.sort == 0 {
		return last, api.OK
	}
	return l.sort, api.OK
}

func (o *oracle) make(t api.Term) (int, api.Errno) {
	sort, err := o.judge(t)
	if err != api.OK {
		return 0, err
	}
	for n, there := range o.terms {
		if there.Op == t.Op && there.Sym == t.Sym && slices.Equal(there.Args, t.Args) && meant(there.Num).Cmp(meant(t.Num)) == 0 {
			return n, api.OK
		}
	}
	if len(o.terms) == 4096 {
		return 0, api.ErrLong
	}
	o.terms = append(o.terms, api.Term{Op: t.Op, Args: slices.Clone(t.Args), Num: told(t.Num), Sym: t.Sym})
	o.sorts = append(o.sorts, sort)
	return len(o.terms) - 1, api.OK
}

func badForm(s api.Sym) bool {
	return len(s.Name) == 0 || !slices.Contains([]int{0, 1, 2, 3, 4}, s.Arity) || !slices.Contains([]int{1, 2}, s.Sort)
}

func (o *oracle) declare(s api.Sym) (int, api.Errno) {
	if badForm(s) {
		return 0, api.ErrForm
	}
	for _, there := range o.syms {
		if there.Name == s.Name {
			return 0, api.ErrName
		}
	}
	if len(o.syms) == 256 {
		return 0, api.ErrLong
	}
	o.syms = append(o.syms, s)
	return len(o.syms) - 1, api.OK
}

func (o *oracle) rows() api.Terms {
	return copyRows(api.Terms{Syms: o.syms, Terms: o.terms})
}

// expectedCheck is what the document asks of Check, where there are at most MaxSyms symbols.
func expectedCheck(r api.Terms) api.Errno {
	if slices.ContainsFunc(r.Syms, badForm) {
		return api.ErrForm
	}
	o := &oracle{}
	for _, s := range r.Syms {
		if _, err := o.declare(s); err != api.OK {
			return err
		}
	}
	for i, t := range r.Terms {
		n, err := o.make(t)
		if err == api.OK && n != i {
			err = api.ErrForm
		}
		if err != api.OK {
			return err
		}
	}
	return api.OK
}

// meant is the number that an api.Int stands for, in whatever form it stands.
func meant(a api.Int) *big.Int {
	v := new(big.Int)
	for i := len(a.Abs) - 1; i >= 0; i-- {
		v.Lsh(v, 64)
		v.Or(v, new(big.Int).SetUint64(a.Abs[i]))
	}
	if a.Neg {
		v.Neg(v)
	}
	return v
}

// told is the same number in the form in which numbers are told.
func told(a api.Int) api.Int {
	v := meant(a)
	out := api.Int{Neg: v.Sign() < 0}
	mask := new(big.Int).SetUint64(math.MaxUint64)
	for v.Abs(v); v.Sign() != 0; v.Rsh(v, 64) {
		out.Abs = append(out.Abs, new(big.Int).And(v, mask).Uint64())
	}
	return out
}

// of is a number of these words, the lowest first, as they stand.
func of(words ...uint64) api.Int {
	return api.Int{Abs: words}
}

func below(words ...uint64) api.Int {
	return api.Int{Neg: true, Abs: words}
}

// zeros are all forms of 0.
func zeros() []api.Int {
	return []api.Int{{}, {Neg: true}, {Abs: api.Nat{}}, below(), of(0), below(0), of(0, 0, 0), below(0, 0)}
}

func term(op int, args ...int) api.Term {
	return api.Term{Op: op, Args: args}
}

func num(v api.Int) api.Term {
	return api.Term{Op: api.OpNum, Num: v}
}

func mul(v api.Int, part int) api.Term {
	return api.Term{Op: api.OpMul, Num: v, Args: []int{part}}
}

func app(sym int, args ...int) api.Term {
	return api.Term{Op: api.OpApp, Sym: sym, Args: args}
}

// many is one part so many times.
func many(part, times int) []int {
	return slices.Repeat([]int{part}, times)
}

func named(name string, arity, sort int) api.Sym {
	return api.Sym{Name: name, Arity: arity, Sort: sort}
}

// symbols are as many as are asked for, all of them unlike.
func symbols(count int) []api.Sym {
	var out []api.Sym
	for i := range count {
		out = append(out, named("s"+strconv.Itoa(i), i%5, 1+i%2))
	}
	return out
}

// few are the symbols of most tests: by their numbers in this order.
const (
	symP = iota // of Bool
	symX        // of Whole
	symF        // a function of one number, of Whole
	symQ        // of two, of Bool
	symG        // of four, of Whole
)

func few() []api.Sym {
	return []api.Sym{named("p", 0, api.Bool), named("x", 0, api.Whole), named("f", 1, api.Whole), named("q", 2, api.Bool), named("g", 4, api.Whole)}
}

// In the pools of most tests these stand first.
const (
	termP = iota
	termX
	termTrue
	termOne
)

func newPool(t *testing.T, syms []api.Sym) *pool.Pool {
	t.Helper()
	p, err := pool.New(syms)
	if err != api.OK || p == nil {
		t.Fatalf("New of %d symbols: error %d", len(syms), err)
	}
	return p
}

func fewPool(t *testing.T) *pool.Pool {
	t.Helper()
	p := newPool(t, few())
	for i, first := range []api.Term{app(symP), app(symX), term(api.OpTrue), num(of(1))} {
		checkMade(t, p, first, i)
	}
	return p
}

// fullPool has MaxTerms terms: fewPool's first, then numbers from 2 on.
func fullPool(t *testing.T) *pool.Pool {
	t.Helper()
	p := fewPool(t)
	for i := 4; i < 4096; i++ {
		checkMade(t, p, num(of(uint64(i-2))), i)
	}
	return p
}

// checkMade fails unless a term has just this number.
func checkMade(t *testing.T, p *pool.Pool, what api.Term, want int) {
	t.Helper()
	if got, err := p.Make(what); got != want || err != api.OK {
		t.Fatalf("Make of %v: %d, %d, but it is the number %d", what, got, err, want)
	}
}

// checkNotMade fails unless a term is refused so, and nothing of it stays.
func checkNotMade(t *testing.T, p *pool.Pool, what api.Term, want api.Errno) {
	t.Helper()
	before := p.Rows()
	if got, err := p.Make(what); got != 0 || err != want {
		t.Fatalf("Make of %v: %d, %d, but its error is %d", what, got, err, want)
	}
	checkRows(t, p, before)
}

// checkSort fails unless a term is of this sort.
func checkSort(t *testing.T, p *pool.Pool, n, want int) {
	t.Helper()
	if got, err := p.Sort(n); got != want || err != api.OK {
		t.Fatalf("Sort of %d: %d, %d, but it is %d", n, got, err, want)
	}
}

// checkRows fails unless a pool's rows are these, numbers in the form in which they are told.
func checkRows(t *testing.T, p *pool.Pool, want api.Terms) {
	t.Helper()
	if got := p.Rows(); !equalRows(got, want) {
		t.Fatalf("Rows: %v, but they are %v", got, want)
	}
}

// checkCheck fails unless rows are judged so.
func checkCheck(t *testing.T, r api.Terms, want api.Errno) {
	t.Helper()
	if got := pool.Check(r); got != want {
		t.Fatalf("Check of %d symbols, %d terms: %d, but it is %d", len(r.Syms), len(r.Terms), got, want)
	}
}

func equalTerm(a, b api.Term) bool {
	return a.Op == b.Op && a.Sym == b.Sym && slices.Equal(a.Args, b.Args) && a.Num.Neg == b.Num.Neg && slices.Equal(a.Num.Abs, b.Num.Abs)
}

func equalRows(a, b api.Terms) bool {
	return slices.Equal(a.Syms, b.Syms) && slices.EqualFunc(a.Terms, b.Terms, equalTerm)
}

func copyRows(r api.Terms) api.Terms {
	out := api.Terms{Syms: slices.Clone(r.Syms)}
	for _, t := range r.Terms {
		t.Args, t.Num.Abs = slices.Clone(t.Args), slices.Clone(t.Num.Abs)
		out.Terms = append(out.Terms, t)
	}
	return out
}
