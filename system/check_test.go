package system_test

import (
	"math"
	"slices"
	"testing"

	"elenchus/api"
	"elenchus/system"
)

// The numbers of sample's symbols, and of some of its terms.
const (
	symX, symNextX, symB, symNextB, symF, symR, symS, symQ = 0, 1, 2, 3, 4, 5, 6, 7

	termX, termB, termNextB, termZero, termNot, termAnd, termDeep, termTrue = 0, 2, 3, 4, 7, 9, 14, 15
)

// sample is a system of a number and a flag, with a function, two numbers and a flag that are rigid.
func sample() api.System {
	app := func(sym int, args ...int) api.Term { return api.Term{Op: api.OpApp, Sym: sym, Args: args} }
	of := func(op int, args ...int) api.Term { return api.Term{Op: op, Args: args} }
	return api.System{
		Terms: api.Terms{
			Syms: []api.Sym{
				named("x", 0, api.Whole), named("x!", 0, api.Whole), named("b", 0, api.Bool), named("b!", 0, api.Bool),
				named("f", 1, api.Whole), named("r", 0, api.Whole), named("s", 0, api.Whole), named("q", 0, api.Bool),
			},
			Terms: []api.Term{
				app(symX), app(symNextX), app(symB), app(symNextB), {Op: api.OpNum}, of(api.OpEq, 0, 4), of(api.OpEq, 1, 0),
				of(api.OpNot, 2), of(api.OpNot, 3), of(api.OpAnd, 5, 7), of(api.OpAnd, 6, 8), app(symF, 1), of(api.OpLe, 11, 0),
				of(api.OpIte, 2, 11, 0), of(api.OpEq, 13, 4), of(api.OpTrue), of(api.OpIte, 2, 7, 5),
			},
		},
		Now: []int{symX, symB}, Next: []int{symNextX, symNextB}, Init: termAnd, Trans: 10, Prop: 5, Lemmas: []int{termNot, termAnd, 16},
	}
}

// changed is the sample with one change.
func changed(change func(*api.System)) api.System {
	s := sample()
	change(&s)
	return s
}

func checks(t *testing.T, s api.System, want api.Errno) {
	t.Helper()
	if err := system.Check(s); err != want {
		t.Fatalf("Check of %v: error %d, but it is %d", s, err, want)
	}
}

// checksChanged fails unless the sample with one change is checked so.
func checksChanged(t *testing.T, want api.Errno, change func(*api.System)) {
	t.Helper()
	checks(t, changed(change), want)
}

func TestCheckOfWhatMayBe(t *testing.T) {
	checks(t, sample(), api.OK)
	flag := api.Terms{Terms: []api.Term{{Op: api.OpTrue}}}
	checks(t, api.System{Terms: flag}, api.OK)
	checks(t, api.System{Terms: flag, Now: []int{}, Next: []int{}, Lemmas: []int{0, 0, 0}}, api.OK)
	checksChanged(t, api.OK, func(s *api.System) { s.Now, s.Next, s.Trans = nil, nil, termTrue })
	checksChanged(t, api.OK, func(s *api.System) { s.Now, s.Next = []int{symB, symR}, []int{symQ, symS} })
	checksChanged(t, api.OK, func(s *api.System) { s.Lemmas = nil })
	checksChanged(t, api.OK, func(s *api.System) { s.Lemmas = []int{termB, termTrue, termB} })
	checksChanged(t, api.OK, func(s *api.System) { s.Trans = termNextB })
	checksChanged(t, api.OK, func(s *api.System) { s.Trans, s.Init, s.Prop = termTrue, termTrue, termTrue })
	checksChanged(t, api.OK, func(s *api.System) {
		s.Now, s.Next = s.Next, s.Now
		s.Init, s.Prop, s.Lemmas = 8, termTrue, []int{termNextB}
	})
}

func TestCheckOfNothing(t *testing.T) {
	checks(t, api.System{}, api.ErrArg)
	checks(t, api.System{Now: []int{0}}, api.ErrArg)
	checks(t, api.System{Terms: api.Terms{Syms: []api.Sym{named("x", 0, api.Whole)}}}, api.ErrArg)
}

// What is wrong with the rows counts ahead of all else, in layer 4's order.
func TestCheckOfRows(t *testing.T) {
	for _, all := range []func(*api.System){func(*api.System) {}, func(s *api.System) { s.Prop, s.Now, s.Lemmas = -1, []int{99}, []int{termNextB, termX} }} {
		row := func(want api.Errno, change func(*api.Terms)) {
			t.Helper()
			checksChanged(t, want, func(s *api.System) { all(s); change(&s.Terms) })
		}
		row(api.ErrLong, func(r *api.Terms) { r.Syms = make([]api.Sym, api.MaxSyms+1) })
		row(api.ErrForm, func(r *api.Terms) { r.Syms[7].Name = "" })
		row(api.ErrForm, func(r *api.Terms) { r.Syms[7].Sort = 3 })
		row(api.ErrForm, func(r *api.Terms) { r.Syms[4].Arity = api.MaxArity + 1 })
		row(api.ErrForm, func(r *api.Terms) { r.Syms[4].Arity = -1 })
		row(api.ErrName, func(r *api.Terms) { r.Syms[7].Name = "x" })
		row(api.ErrForm, func(r *api.Terms) { r.Terms[15].Op = 0 })
		row(api.ErrForm, func(r *api.Terms) { r.Terms[15].Op = 14 })
		row(api.ErrForm, func(r *api.Terms) { r.Terms[15].Sym = 1 })
		row(api.ErrForm, func(r *api.Terms) { r.Terms = append(r.Terms, r.Terms[9]) })
		row(api.ErrName, func(r *api.Terms) { r.Terms[0].Sym = 8 })
		row(api.ErrArg, func(r *api.Terms) { r.Terms[5].Args[1] = 5 })
		row(api.ErrArg, func(r *api.Terms) { r.Terms[5].Args[1] = -1 })
		row(api.ErrCount, func(r *api.Terms) { r.Terms[9].Args = r.Terms[9].Args[:1] })
		row(api.ErrCount, func(r *api.Terms) { r.Terms[11].Args = nil })
		row(api.ErrSort, func(r *api.Terms) { r.Terms[7].Args[0] = termX })
		row(api.ErrLong, func(r *api.Terms) { r.Terms = append(r.Terms, manyNumbers(api.MaxTerms)...) })
	}
	checksChanged(t, api.OK, func(s *api.System) { s.Terms.Terms = append(s.Terms.Terms, manyNumbers(api.MaxTerms-17)...) })
}

// manyNumbers are so many terms, all above 0.
func manyNumbers(count int) []api.Term {
	var out []api.Term
	for n := range count {
		out = append(out, api.Term{Op: api.OpNum, Num: api.Int{Abs: api.Nat{uint64(n + 1)}}})
	}
	return out
}

func TestCheckOfNumbers(t *testing.T) {
	for _, n := range []int{-1, 8, 9, 17, math.MaxInt, math.MinInt} {
		checksChanged(t, api.ErrArg, func(s *api.System) { s.Now[0] = n })
		checksChanged(t, api.ErrArg, func(s *api.System) { s.Now[1] = n })
		checksChanged(t, api.ErrArg, func(s *api.System) { s.Next[0] = n })
		checksChanged(t, api.ErrArg, func(s *api.System) { s.Next[1] = n })
		checksChanged(t, api.ErrArg, func(s *api.System) { s.Now = append(s.Now, n) })
		checksChanged(t, api.ErrArg, func(s *api.System) { s.Next = append(s.Next, n) })
	}
	for _, n := range []int{-1, 17, 18, 4096, math.MaxInt, math.MinInt} {
		checksChanged(t, api.ErrArg, func(s *api.System) { s.Init = n })
		checksChanged(t, api.ErrArg, func(s *api.System) { s.Trans = n })
		checksChanged(t, api.ErrArg, func(s *api.System) { s.Prop = n })
		checksChanged(t, api.ErrArg, func(s *api.System) { s.Lemmas[0] = n })
		checksChanged(t, api.ErrArg, func(s *api.System) { s.Lemmas[2] = n })
	}
}

func TestCheckOfCounts(t *testing.T) {
	checksChanged(t, api.ErrCount, func(s *api.System) { s.Now = s.Now[:1] })
	checksChanged(t, api.ErrCount, func(s *api.System) { s.Next = s.Next[:1] })
	checksChanged(t, api.ErrCount, func(s *api.System) { s.Now = nil })
	checksChanged(t, api.ErrCount, func(s *api.System) { s.Next = nil })
	checksChanged(t, api.ErrCount, func(s *api.System) { s.Now = append(s.Now, symR) })
	checksChanged(t, api.ErrCount, func(s *api.System) { s.Next = append(s.Next, symNextX) })
	checksChanged(t, api.ErrCount, func(s *api.System) { s.Next = append(s.Next, symF, symF) })
}

func TestCheckOfSymbolsThatStandTwice(t *testing.T) {
	with := func(now, next int) func(*api.System) {
		return func(s *api.System) { s.Now, s.Next = append(s.Now, now), append(s.Next, next) }
	}
	checksChanged(t, api.OK, with(symR, symS))
	checksChanged(t, api.ErrName, with(symR, symR))
	checksChanged(t, api.ErrName, with(symX, symR))
	checksChanged(t, api.ErrName, with(symNextX, symR))
	checksChanged(t, api.ErrName, with(symR, symX))
	checksChanged(t, api.ErrName, with(symR, symNextX))
	checksChanged(t, api.ErrName, with(symX, symNextX))
	checksChanged(t, api.ErrName, with(symNextX, symX))
	checksChanged(t, api.ErrName, with(symB, symX))
	checksChanged(t, api.ErrName, func(s *api.System) { s.Next = []int{symX, symNextB} })
	checksChanged(t, api.ErrName, func(s *api.System) { s.Now = []int{symX, symX} })
	checksChanged(t, api.ErrName, func(s *api.System) { s.Next = []int{symNextB, symNextB} })
	checksChanged(t, api.ErrName, func(s *api.System) { s.Next = []int{symNextX, symX} })
}

func TestCheckOfSorts(t *testing.T) {
	checksChanged(t, api.ErrSort, func(s *api.System) { s.Now[0] = symF })
	checksChanged(t, api.ErrSort, func(s *api.System) { s.Next[0] = symF })
	checksChanged(t, api.ErrSort, func(s *api.System) { s.Now, s.Next = []int{symF}, []int{symNextX} })
	checksChanged(t, api.ErrSort, func(s *api.System) { s.Now[0] = symQ })
	checksChanged(t, api.ErrSort, func(s *api.System) { s.Next[1] = symR })
	checksChanged(t, api.ErrSort, func(s *api.System) { slices.Reverse(s.Next) })
	g := func(s *api.System) { s.Terms.Syms = append(s.Terms.Syms, named("h", 1, api.Whole)) }
	checksChanged(t, api.ErrSort, func(s *api.System) { g(s); s.Now, s.Next = []int{symF}, []int{8} })
	for _, n := range []int{termX, termZero, 1, 11, 13} {
		checksChanged(t, api.ErrSort, func(s *api.System) { s.Init = n })
		checksChanged(t, api.ErrSort, func(s *api.System) { s.Trans = n })
		checksChanged(t, api.ErrSort, func(s *api.System) { s.Prop = n })
		checksChanged(t, api.ErrSort, func(s *api.System) { s.Lemmas[0] = n })
		checksChanged(t, api.ErrSort, func(s *api.System) { s.Lemmas[2] = n })
	}
}

// Trans alone may need a Next symbol, itself or in its parts.
func TestCheckOfForms(t *testing.T) {
	for _, n := range []int{termNextB, 6, 8, 10, 12, termDeep} {
		checksChanged(t, api.OK, func(s *api.System) { s.Trans = n })
		checksChanged(t, api.ErrForm, func(s *api.System) { s.Init = n })
		checksChanged(t, api.ErrForm, func(s *api.System) { s.Prop = n })
		checksChanged(t, api.ErrForm, func(s *api.System) { s.Lemmas[0] = n })
		checksChanged(t, api.ErrForm, func(s *api.System) { s.Lemmas[2] = n })
		checksChanged(t, api.ErrForm, func(s *api.System) { s.Trans, s.Prop = n, n })
		checksChanged(t, api.ErrForm, func(s *api.System) { s.Trans, s.Lemmas[1] = n, n })
		checksChanged(t, api.OK, func(s *api.System) { s.Now, s.Next = nil, nil; s.Init, s.Prop, s.Lemmas[0] = n, n, n })
	}
	checksChanged(t, api.OK, func(s *api.System) { s.Now, s.Next, s.Prop = []int{symX}, []int{symNextX}, 8 })
	checksChanged(t, api.ErrForm, func(s *api.System) { s.Now, s.Next, s.Prop = []int{symB}, []int{symNextB}, 8 })
	checksChanged(t, api.ErrForm, func(s *api.System) { s.Now, s.Next = []int{symNextB}, []int{symB} })
}

// Of any errors the one that is told first counts.
func TestFirstOfErrorsOfCheck(t *testing.T) {
	faults := []struct {
		err    api.Errno
		change func(*api.System)
	}{
		{api.ErrName, func(s *api.System) { s.Terms.Syms = append(s.Terms.Syms, named("x", 0, api.Bool)) }},
		{api.ErrForm, func(s *api.System) { s.Terms.Terms = append(s.Terms.Terms, s.Terms.Terms[0]) }},
		{api.ErrArg, func(s *api.System) { s.Lemmas = append(s.Lemmas, -1) }},
		{api.ErrArg, func(s *api.System) { s.Next = append([]int{99}, s.Next...) }},
		{api.ErrCount, func(s *api.System) { s.Next = append(s.Next, symQ) }},
		{api.ErrName, func(s *api.System) { s.Now, s.Next = append(s.Now, symNextX), append(s.Next, symR) }},
		{api.ErrSort, func(s *api.System) { s.Now, s.Next = append(s.Now, symS), append(s.Next, symF) }},
		{api.ErrSort, func(s *api.System) { s.Lemmas = append(s.Lemmas, termX) }},
		{api.ErrForm, func(s *api.System) { s.Lemmas = append(s.Lemmas, termNextB) }},
		{api.ErrForm, func(s *api.System) { s.Prop = termDeep }},
	}
	for set := range 1 << len(faults) {
		s, want := sample(), api.OK
		for i, f := range faults {
			if set>>i&1 == 0 {
				continue
			}
			f.change(&s)
			if want == api.OK {
				want = f.err
			}
		}
		checks(t, s, want)
	}
}
