package pool_test

import (
	"math"
	"slices"
	"testing"

	"elenchus/api"
)

// someTerms may be over few, and none of them twice.
func someTerms() []api.Term {
	return []api.Term{
		app(symP), app(symX), num(of(3)), num(below(3)), app(symF, 1), app(symQ, 1, 4),
		term(api.OpLe, 1, 2), term(api.OpAnd, 0, 5, 6), term(api.OpIte, 7, 1, 4), mul(of(0, 2), 8), term(api.OpAdd, 1, 9), term(api.OpEq, 10, 3),
	}
}

func someRows() api.Terms {
	return api.Terms{Syms: few(), Terms: someTerms()}
}

func TestRows(t *testing.T) {
	p := newPool(t, few())
	for i, what := range someTerms() {
		checkRows(t, p, api.Terms{Syms: few(), Terms: someTerms()[:i]})
		checkMade(t, p, what, i)
	}
	checkRows(t, p, someRows())
	// What is there already makes no other rows.
	for i, what := range someTerms() {
		checkMade(t, p, what, i)
	}
	checkRows(t, p, someRows())
}

func TestCheck(t *testing.T) {
	checkCheck(t, api.Terms{}, api.OK)
	checkCheck(t, api.Terms{Syms: []api.Sym{}, Terms: []api.Term{}}, api.OK)
	checkCheck(t, api.Terms{Terms: []api.Term{term(api.OpTrue), term(api.OpNot, 0)}}, api.OK)
	r := someRows()
	for i := range r.Terms {
		checkCheck(t, api.Terms{Syms: r.Syms, Terms: r.Terms[:i]}, api.OK)
	}
	checkCheck(t, r, api.OK)
	// Numbers in any form may be.
	for _, zero := range zeros() {
		checkCheck(t, with(r, num(zero), mul(zero, 1), api.Term{Op: api.OpTrue, Num: zero}), api.OK)
	}
}

func TestCheckOfTheSameTwice(t *testing.T) {
	r := someRows()
	for _, what := range r.Terms {
		checkCheck(t, with(r, what), api.ErrForm)
		checkCheck(t, with(r, term(api.OpTrue), term(api.OpFalse), what), api.ErrForm)
		checkCheck(t, with(r, what, term(0)), api.ErrForm)
		checkCheck(t, with(r, what, app(-1)), api.ErrForm)
	}
	checkCheck(t, with(r, num(of(3, 0))), api.ErrForm)
	checkCheck(t, with(r, num(below(3, 0, 0))), api.ErrForm)
	checkCheck(t, with(r, mul(of(0, 2, 0), 8)), api.ErrForm)
	checkCheck(t, with(r, num(of()), num(below(0))), api.ErrForm)
	for _, zero := range zeros() {
		twin := app(symP)
		twin.Num = zero
		checkCheck(t, with(r, twin), api.ErrForm)
	}
	checkCheck(t, api.Terms{Terms: []api.Term{term(api.OpTrue), term(api.OpTrue)}}, api.ErrForm)
	full := fullPool(t).Rows()
	checkCheck(t, with(full, full.Terms[0]), api.ErrForm)
	checkCheck(t, with(full, full.Terms[4095]), api.ErrForm)
}

func TestCheckOfPartsThatAreNotAhead(t *testing.T) {
	for place, what := range someTerms() {
		for i := range what.Args {
			for _, part := range []int{place, place + 1, len(someTerms()) - 1, len(someTerms()), -1, math.MaxInt, math.MinInt} {
				if part >= 0 && part < place {
					continue
				}
				r := someRows()
				r.Terms[place].Args[i] = part
				checkCheck(t, r, api.ErrArg)
			}
		}
	}
	checkCheck(t, api.Terms{Terms: []api.Term{term(api.OpNot, 0)}}, api.ErrArg)
	checkCheck(t, api.Terms{Terms: []api.Term{term(api.OpNot, 1), term(api.OpTrue)}}, api.ErrArg)
}

// What is wrong with the first term counts, whatever is wrong with later ones.
func TestCheckTellsTheFirst(t *testing.T) {
	wrong := map[api.Errno]api.Term{
		api.ErrForm: term(14), api.ErrName: app(5), api.ErrArg: term(api.OpNot, 99), api.ErrCount: term(api.OpNot), api.ErrSort: term(api.OpNot, 1),
	}
	for first, a := range wrong {
		checkCheck(t, with(someRows(), a), first)
		for _, b := range wrong {
			checkCheck(t, with(someRows(), a, b), first)
			checkCheck(t, with(someRows(), a, num(of(77)), b), first)
		}
	}
	// Many behind it are too many, but that comes later.
	var many []api.Term
	for i := range 5000 {
		many = append(many, num(of(uint64(i))))
	}
	checkCheck(t, api.Terms{Terms: many}, api.ErrLong)
	checkCheck(t, api.Terms{Terms: many[:4097]}, api.ErrLong)
	checkCheck(t, api.Terms{Terms: many[:4096]}, api.OK)
	checkCheck(t, api.Terms{Terms: slices.Insert(slices.Clone(many), 4095, app(0))}, api.ErrName)
	checkCheck(t, api.Terms{Terms: append(slices.Clone(many), term(0))}, api.ErrLong)
}

// Terms that may be over some symbols may not over fewer, or over others.
func TestCheckOfOtherSymbols(t *testing.T) {
	r := someRows()
	r.Syms = r.Syms[:3]
	checkCheck(t, r, api.ErrName)
	r.Syms = nil
	checkCheck(t, r, api.ErrName)
	r = someRows()
	r.Syms[symF].Arity = 2
	checkCheck(t, r, api.ErrCount)
	r = someRows()
	r.Syms[symF].Sort = api.Bool
	checkCheck(t, r, api.ErrSort)
	r = someRows()
	r.Syms[symP], r.Syms[symX] = r.Syms[symX], r.Syms[symP]
	checkCheck(t, r, api.ErrSort)
}
