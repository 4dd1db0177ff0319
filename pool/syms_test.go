package pool_test

import (
	"math"
	"slices"
	"testing"

	"elenchus/api"
	"elenchus/pool"
)

// badForms are symbols that may not be, whatever others there are.
func badForms() []api.Sym {
	return []api.Sym{
		{}, named("", 0, api.Whole), named("", 1, api.Bool),
		named("a", -1, api.Whole), named("a", 5, api.Whole), named("a", math.MaxInt, api.Bool), named("a", math.MinInt, api.Bool),
		named("a", 0, 0), named("a", 0, 3), named("a", 0, -1), named("a", 0, math.MaxInt), named("a", 0, math.MinInt),
	}
}

func checkNoPool(t *testing.T, syms []api.Sym, want api.Errno) {
	t.Helper()
	if p, err := pool.New(syms); p != nil || err != want {
		t.Fatalf("New of %d symbols: %v, %d, but its error is %d", len(syms), p != nil, err, want)
	}
	checkCheck(t, api.Terms{Syms: syms}, want)
	// Of rows, what is wrong with symbols comes ahead of what is wrong with terms.
	checkCheck(t, api.Terms{Syms: syms, Terms: []api.Term{{}, app(-1)}}, want)
}

func checkPool(t *testing.T, syms []api.Sym) *pool.Pool {
	t.Helper()
	p := newPool(t, syms)
	checkRows(t, p, api.Terms{Syms: syms})
	checkCheck(t, api.Terms{Syms: syms}, api.OK)
	return p
}

func TestNew(t *testing.T) {
	checkPool(t, nil)
	checkPool(t, []api.Sym{})
	checkPool(t, few())
	checkPool(t, symbols(255))
	checkPool(t, symbols(256))
	for arity := range 5 {
		checkPool(t, []api.Sym{named("a", arity, api.Bool)})
		checkPool(t, []api.Sym{named("a", arity, api.Whole)})
	}
}

func TestUnlikeNames(t *testing.T) {
	var syms []api.Sym
	for _, name := range []string{"a", "A", " ", "a ", " a", "aa", "\x00", "a\x00", "\xff", "|a|", "true", "0", "ä"} {
		syms = append(syms, named(name, 0, api.Bool))
	}
	checkPool(t, syms)
}

func TestNewOfTooMany(t *testing.T) {
	checkNoPool(t, symbols(257), api.ErrLong)
	checkNoPool(t, symbols(1000), api.ErrLong)
	checkNoPool(t, slices.Repeat(symbols(1), 257), api.ErrLong)
	for _, bad := range badForms() {
		checkNoPool(t, append([]api.Sym{bad}, symbols(256)...), api.ErrLong)
	}
	checkNoPool(t, append(symbols(255), named("s0", 0, 0), named("s1", 0, api.Bool)), api.ErrLong)
}

func TestNewOfBadForms(t *testing.T) {
	for _, bad := range badForms() {
		for place := range 4 {
			checkNoPool(t, slices.Insert(symbols(3), place, bad), api.ErrForm)
		}
		checkNoPool(t, append(symbols(255), bad), api.ErrForm)
		// A name that two have comes behind, wherever they stand.
		twice := slices.Repeat(symbols(1), 2)
		for place := range 3 {
			checkNoPool(t, slices.Insert(twice, place, bad), api.ErrForm)
		}
	}
	checkNoPool(t, []api.Sym{named("a", 0, api.Bool), named("a", 0, 0)}, api.ErrForm)
	checkNoPool(t, []api.Sym{{}, {}}, api.ErrForm)
}

func TestNewOfOneNameTwice(t *testing.T) {
	for _, twin := range []api.Sym{named("s0", 0, api.Bool), named("s0", 0, api.Whole), named("s0", 3, api.Bool), named("s0", 4, api.Whole)} {
		for place := range 4 {
			checkNoPool(t, slices.Insert(symbols(3), place, twin), api.ErrName)
		}
		checkNoPool(t, append(symbols(255), twin), api.ErrName)
	}
}

func checkDeclared(t *testing.T, p *pool.Pool, s api.Sym, want int) {
	t.Helper()
	if got, err := p.Declare(s); got != want || err != api.OK {
		t.Fatalf("Declare of %v: %d, %d, but it is the number %d", s, got, err, want)
	}
}

func checkNotDeclared(t *testing.T, p *pool.Pool, s api.Sym, want api.Errno) {
	t.Helper()
	before := p.Rows()
	if got, err := p.Declare(s); got != 0 || err != want {
		t.Fatalf("Declare of %v: %d, %d, but its error is %d", s, got, err, want)
	}
	checkRows(t, p, before)
}

func TestDeclare(t *testing.T) {
	p := newPool(t, nil)
	all := symbols(256)
	for i, s := range all {
		checkDeclared(t, p, s, i)
	}
	checkRows(t, p, api.Terms{Syms: all})
	p = newPool(t, all[:100])
	for i, s := range all[100:] {
		checkDeclared(t, p, s, 100+i)
	}
	checkRows(t, p, api.Terms{Syms: all})
}

func TestDeclareOfBadForms(t *testing.T) {
	for _, bad := range badForms() {
		p := newPool(t, few())
		checkNotDeclared(t, p, bad, api.ErrForm)
		// Its name isn't taken by that.
		checkDeclared(t, p, named("a", 1, api.Whole), 5)
		checkNotDeclared(t, p, bad, api.ErrForm)
		checkDeclared(t, p, named("b", 1, api.Whole), 6)
	}
}

func TestDeclareOfOneNameTwice(t *testing.T) {
	p := newPool(t, few())
	checkDeclared(t, p, named("a", 0, api.Bool), 5)
	for _, name := range []string{"p", "x", "f", "q", "g", "a"} {
		for arity := range 5 {
			checkNotDeclared(t, p, named(name, arity, api.Bool), api.ErrName)
			checkNotDeclared(t, p, named(name, arity, api.Whole), api.ErrName)
		}
		checkNotDeclared(t, p, named(name, 5, api.Bool), api.ErrForm)
		checkNotDeclared(t, p, named(name, 0, 3), api.ErrForm)
	}
	checkDeclared(t, p, named("b", 0, api.Bool), 6)
}

func TestDeclareOfTooMany(t *testing.T) {
	full := newPool(t, symbols(256))
	checkNotDeclared(t, full, named("a", 0, api.Bool), api.ErrLong)
	checkNotDeclared(t, full, named("s0", 0, api.Bool), api.ErrName)
	checkNotDeclared(t, full, named("s255", 0, api.Bool), api.ErrName)
	for _, bad := range badForms() {
		checkNotDeclared(t, full, bad, api.ErrForm)
	}
	checkNotDeclared(t, full, named("s0", 0, 0), api.ErrForm)
	checkNotDeclared(t, full, named("a", 0, api.Bool), api.ErrLong)

	p := newPool(t, symbols(255))
	checkDeclared(t, p, named("a", 0, api.Bool), 255)
	checkNotDeclared(t, p, named("b", 0, api.Bool), api.ErrLong)
	checkNotDeclared(t, p, named("a", 0, api.Bool), api.ErrName)
	checkMade(t, p, app(255), 0)
}

// Symbols may come behind terms, and terms of them behind that.
func TestDeclareBehindTerms(t *testing.T) {
	p := fewPool(t)
	checkNotMade(t, p, app(5, termX), api.ErrName)
	checkDeclared(t, p, named("h", 1, api.Bool), 5)
	checkMade(t, p, app(5, termX), 4)
	checkSort(t, p, 4, api.Bool)
	checkMade(t, p, app(symX), termX)
	want := api.Terms{Syms: append(few(), named("h", 1, api.Bool)), Terms: []api.Term{app(symP), app(symX), term(api.OpTrue), num(of(1)), app(5, termX)}}
	checkRows(t, p, want)
	checkCheck(t, want, api.OK)
}

// A pool of MaxTerms terms takes symbols yet.
func TestDeclareBehindAllTerms(t *testing.T) {
	p := fullPool(t)
	checkDeclared(t, p, named("h", 0, api.Bool), 5)
	checkNotMade(t, p, app(5), api.ErrLong)
}
