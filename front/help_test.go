package front_test

import (
	"math"
	"math/big"
	"slices"
	"strconv"
	"strings"
	"testing"

	"elenchus/api"
	"elenchus/front"
	"elenchus/pool"
	"elenchus/sexp"
)

// meant is the number that an api.Int stands for, in whatever form it stands.
func meant(a api.Int) *big.Int {
	v := new(big.Int)
	for i := len(a.Abs) - 1; i >= 0; i-- {
		v.Lsh(v, 64)
		v.Or(v, new(big.Int).SetUint64(a.Abs[i]))
	}
	if a.Neg {
		v.Neg(v)
	}
	return v
}

// told is a number in the form in which numbers are told.
func told(n *big.Int) api.Int {
	out := api.Int{Neg: n.Sign() < 0}
	mask := new(big.Int).SetUint64(math.MaxUint64)
	for v := new(big.Int).Abs(n); v.Sign() != 0; v.Rsh(v, 64) {
		out.Abs = append(out.Abs, new(big.Int).And(v, mask).Uint64())
	}
	return out
}

// number is the number of a text.
func number(text string) *big.Int {
	v, ok := new(big.Int).SetString(text, 10)
	if !ok {
		panic("no number: " + text)
	}
	return v
}

// small is a number, told.
func small(v int64) api.Int {
	return told(big.NewInt(v))
}

// isTold asks whether a number is this one, in just the form in which numbers are told.
func isTold(got api.Int, want *big.Int) bool {
	w := told(want)
	return got.Neg == w.Neg && slices.Equal(got.Abs, w.Abs)
}

func named(name string, arity, sort int) api.Sym {
	return api.Sym{Name: name, Arity: arity, Sort: sort}
}

// few are the symbols of most tests.
func few() []api.Sym {
	return []api.Sym{
		named("p", 0, api.Bool), named("q", 0, api.Bool), named("r", 0, api.Bool),
		named("x", 0, api.Whole), named("y", 0, api.Whole), named("z", 0, api.Whole),
		named("f", 1, api.Whole), named("g", 2, api.Whole), named("b", 1, api.Bool),
	}
}

func newPool(t *testing.T, syms []api.Sym) *pool.Pool {
	t.Helper()
	p, err := pool.New(syms)
	if err != api.OK {
		t.Fatalf("New of %v: error %d", syms, err)
	}
	return p
}

// add is the number of a term of a pool.
func add(t *testing.T, p *pool.Pool, what api.Term) int {
	t.Helper()
	n, err := p.Make(what)
	if err != api.OK {
		t.Fatalf("Make of %v: error %d", what, err)
	}
	return n
}

func num(v int64) api.Term {
	return api.Term{Op: api.OpNum, Num: small(v)}
}

// opNames are Ops as they are shown.
var opNames = map[int]string{
	1: "true", 2: "false", 5: "not", 6: "and", 7: "or", 8: "iff", 9: "ite", 10: "eq", 11: "le", 12: "add", 13: "mul",
}

// showTerm writes a term: numbers as they are, symbols by their names, else the Op, how many times (mul), and the parts.
func showTerm(syms []api.Sym, what api.Term) string {
	var out []string
	switch what.Op {
	case api.OpNum:
		out = append(out, meant(what.Num).String())
	case api.OpApp:
		out = append(out, syms[what.Sym].Name)
	case api.OpMul:
		out = append(out, opNames[what.Op], meant(what.Num).String())
	default:
		out = append(out, opNames[what.Op])
	}
	for _, part := range what.Args {
		out = append(out, strconv.Itoa(part))
	}
	return strings.Join(out, " ")
}

// show writes all terms of rows, in order.
func show(r api.Terms) string {
	var out []string
	for _, what := range r.Terms {
		out = append(out, showTerm(r.Syms, what))
	}
	return strings.Join(out, ", ")
}

// expr is a text's one expression.
func expr(t *testing.T, text string) api.Expr {
	t.Helper()
	list, at, err := sexp.Read(text)
	if err != api.OK || len(list) != 1 {
		t.Fatalf("%q is no expression: %d of them, error %d at %d", text, len(list), err, at)
	}
	return list[0]
}

// unmark is a text without its mark, and the place at which that stood.
func unmark(t *testing.T, marked string) (string, int) {
	t.Helper()
	text := strings.Replace(marked, "§", "", 1)
	at := strings.Index(marked, "§")
	if at < 0 || strings.Contains(text, "§") {
		t.Fatalf("%q has not just one mark", marked)
	}
	return text, at
}

// scope is a scope of a pool of its own.
type scope struct {
	t *testing.T
	p *pool.Pool
	s *front.Scope
}

func newScope(t *testing.T, syms ...api.Sym) scope {
	t.Helper()
	p := newPool(t, syms)
	return scope{t, p, front.New(p)}
}

// fewScope is one of the few symbols.
func fewScope(t *testing.T) scope {
	t.Helper()
	return newScope(t, few()...)
}

func (s scope) define(name string, n int) {
	s.t.Helper()
	if err := s.s.Define(name, n); err != api.OK {
		s.t.Fatalf("Define of %q as %d: error %d", name, n, err)
	}
}

func (s scope) notDefined(name string, n int, want api.Errno) {
	s.t.Helper()
	if err := s.s.Define(name, n); err != want {
		s.t.Fatalf("Define of %q as %d: error %d, but it is %d", name, n, err, want)
	}
}

// term fails unless an expression is read as the term of this number.
func (s scope) term(text string, want int) {
	s.t.Helper()
	s.termOf(expr(s.t, text), want)
}

func (s scope) termOf(e api.Expr, want int) {
	s.t.Helper()
	if n, at, err := s.s.Term(e); n != want || at != 0 || err != api.OK {
		s.t.Fatalf("Term of %v: %d, error %d at %d, but it is %d of %s", e, n, err, at, want, show(s.p.Rows()))
	}
}

// wrong fails unless an expression has an error at the mark.
func (s scope) wrong(marked string, want api.Errno) {
	s.t.Helper()
	text, at := unmark(s.t, marked)
	s.wrongOf(expr(s.t, text), at, want)
}

func (s scope) wrongOf(e api.Expr, at int, want api.Errno) {
	s.t.Helper()
	if n, place, err := s.s.Term(e); n != 0 || place != at || err != want {
		s.t.Fatalf("Term of %v: %d, error %d at %d, but it is error %d at %d", e, n, err, place, want, at)
	}
}

// has fails unless the pool has just these terms.
func (s scope) has(want string) {
	s.t.Helper()
	if got := show(s.p.Rows()); got != want {
		s.t.Fatalf("the pool has the terms\n%s\nbut they are\n%s", got, want)
	}
}

// checkRead fails unless a text over symbols makes just these terms, its expressions those of these numbers.
func checkRead(t *testing.T, syms []api.Sym, text, terms string, want ...int) {
	t.Helper()
	r, numbers, at, err := front.Read(syms, text)
	if err != api.OK || at != 0 || !slices.Equal(numbers, want) {
		t.Fatalf("Read of %q: %v, error %d at %d, but it is %v", text, numbers, err, at, want)
	}
	if got := show(r); got != terms || !slices.Equal(r.Syms, syms) {
		t.Fatalf("Read of %q: %v has the terms\n%s\nbut they are\n%s", text, r.Syms, got, terms)
	}
	if err := pool.Check(r); err != api.OK {
		t.Fatalf("Read of %q: rows that may not be, error %d", text, err)
	}
}

// makes fails unless an expression over the few symbols makes just these terms, its own the last one.
func makes(t *testing.T, text, terms string) {
	t.Helper()
	checkRead(t, few(), text, terms, strings.Count(terms, ","))
}

// wrong fails unless a text over the few symbols has an error at the mark.
func wrong(t *testing.T, marked string, want api.Errno) {
	t.Helper()
	text, at := unmark(t, marked)
	checkNotRead(t, few(), text, at, want)
}

func checkNotRead(t *testing.T, syms []api.Sym, text string, at int, want api.Errno) {
	t.Helper()
	r, numbers, place, err := front.Read(syms, text)
	if err != want || place != at {
		t.Fatalf("Read of %.200q: error %d at %d, but it is error %d at %d", text, err, place, want, at)
	}
	if len(r.Syms)+len(r.Terms)+len(numbers) > 0 {
		t.Fatalf("Read of %.200q: beside an error there are %v and %v", text, r, numbers)
	}
}

// listed is a list of an operator and as many parts as are asked for, one after the other, over and over.
func listed(op string, count int, parts ...string) string {
	out := []string{op}
	for i := range count {
		out = append(out, parts[i%len(parts)])
	}
	return "(" + strings.Join(out, " ") + ")"
}

// readFew reads a text over the few symbols.
func readFew(text string) (api.Terms, []int, int, api.Errno) {
	return front.Read(few(), text)
}

// isBool asks whether an expression over the few symbols is of Bool.
func isBool(t *testing.T, text string) bool {
	t.Helper()
	s := fewScope(t)
	n, _, err := s.s.Term(expr(t, text))
	if err != api.OK {
		t.Fatalf("Term of %q: error %d", text, err)
	}
	sort, _ := s.p.Sort(n)
	return sort == api.Bool
}
