package pool_test

import (
	"math"
	"slices"
	"testing"

	"elenchus/api"
	"elenchus/pool"
)

// Each Op makes terms of as many parts as it may have, of its sort.
func TestEachOp(t *testing.T) {
	p := fewPool(t)
	for i, c := range []struct {
		term api.Term
		sort int
	}{
		{term(api.OpFalse), api.Bool},
		{num(below(7)), api.Whole},
		{app(symF, termX), api.Whole},
		{app(symQ, termX, termOne), api.Bool},
		{app(symG, termX, termOne, termX, 6), api.Whole},
		{term(api.OpNot, termP), api.Bool},
		{term(api.OpAnd, termP, termTrue), api.Bool},
		{term(api.OpAnd, many(termP, 64)...), api.Bool},
		{term(api.OpOr, termP, 7), api.Bool},
		{term(api.OpOr, many(termTrue, 64)...), api.Bool},
		{term(api.OpIff, termP, 9), api.Bool},
		{term(api.OpIte, termP, termX, termOne), api.Whole},
		{term(api.OpIte, 7, 9, termP), api.Bool},
		{term(api.OpEq, termX, 15), api.Bool},
		{term(api.OpLe, 15, termX), api.Bool},
		{term(api.OpAdd, termX, termX), api.Whole},
		{term(api.OpAdd, many(15, 64)...), api.Whole},
		{mul(of(3), 20), api.Whole},
		{mul(of(), termX), api.Whole},
		{term(api.OpAnd, 16, 17, 18), api.Bool},
		{term(api.OpAdd, 19, 20, 21), api.Whole},
	} {
		checkMade(t, p, c.term, 4+i)
		checkSort(t, p, 4+i, c.sort)
	}
	for n, sort := range map[int]int{termP: api.Bool, termX: api.Whole, termTrue: api.Bool, termOne: api.Whole} {
		checkSort(t, p, n, sort)
	}
	checkCheck(t, p.Rows(), api.OK)
}

func TestAsTold(t *testing.T) {
	p := newPool(t, nil)
	checkMade(t, p, term(api.OpTrue), 0)
	checkMade(t, p, term(api.OpAnd, 0, 0), 1)
	checkMade(t, p, term(api.OpAnd, 0, 0), 1)
	checkRows(t, p, api.Terms{Terms: []api.Term{term(api.OpTrue), term(api.OpAnd, 0, 0)}})
}

func TestNoOp(t *testing.T) {
	p := fewPool(t)
	for _, op := range []int{0, 14, -1, 15, 256 + 1, math.MaxInt, math.MinInt} {
		checkNotMade(t, p, term(op), api.ErrForm)
		checkNotMade(t, p, term(op, termP), api.ErrForm)
		checkNotMade(t, p, term(op, termX, -1), api.ErrForm)
		checkNotMade(t, p, api.Term{Op: op, Num: of(1), Sym: 9}, api.ErrForm)
	}
}

// eachOp has one term of each Op; all may be in fewPool.
func eachOp() []api.Term {
	return []api.Term{
		term(api.OpTrue), term(api.OpFalse), num(of(8)), app(symF, termX), term(api.OpNot, termP),
		term(api.OpAnd, termP, termP), term(api.OpOr, termP, termP), term(api.OpIff, termP, termP),
		term(api.OpIte, termP, termX, termX), term(api.OpEq, termX, termX), term(api.OpLe, termX, termX),
		term(api.OpAdd, termX, termX), mul(of(8), termX),
	}
}

func TestNumWhereNothingIsSaid(t *testing.T) {
	p := fewPool(t)
	for _, what := range eachOp() {
		if what.Op == api.OpNum || what.Op == api.OpMul {
			continue
		}
		for _, v := range []api.Int{of(1), below(1), of(0, 1), below(0, 1, 0), of(math.MaxUint64)} {
			what.Num = v
			checkNotMade(t, p, what, api.ErrForm)
		}
	}
}

func TestSymWhereNothingIsSaid(t *testing.T) {
	p := fewPool(t)
	for _, what := range eachOp() {
		if what.Op == api.OpApp {
			continue
		}
		for _, sym := range []int{1, 4, 5, -1, math.MaxInt, math.MinInt} {
			what.Sym = sym
			checkNotMade(t, p, what, api.ErrForm)
		}
	}
}

// A Num that is 0 says nothing, in any form.
func TestZerosWhereNothingIsSaid(t *testing.T) {
	for _, zero := range zeros() {
		p := fewPool(t)
		var first []int
		for _, what := range eachOp() {
			if what.Op != api.OpNum && what.Op != api.OpMul {
				what.Num = zero
			}
			n, err := p.Make(what)
			if err != api.OK {
				t.Fatalf("Make of %v: error %d", what, err)
			}
			first = append(first, n)
		}
		for i, what := range eachOp() {
			checkMade(t, p, what, first[i])
		}
		for _, row := range p.Rows().Terms {
			if row.Op != api.OpNum && row.Op != api.OpMul && (row.Num.Neg || len(row.Num.Abs) > 0) {
				t.Fatalf("a row has a number: %v", row)
			}
		}
	}
}

// The same number in two forms makes the same term; it is told in one form.
func TestNumbersInAnyForm(t *testing.T) {
	p := fewPool(t)
	next := 4
	for _, forms := range [][]api.Int{
		zeros(),
		{of(5), of(5, 0), of(5, 0, 0, 0)},
		{below(5), below(5, 0), below(5, 0, 0)},
		{of(0, 5), of(0, 5, 0)},
		{below(0, 5, 0, 0), below(0, 5)},
		{of(math.MaxUint64, 7, 0), of(math.MaxUint64, 7)},
	} {
		for _, v := range forms {
			checkMade(t, p, num(v), next)
			checkMade(t, p, mul(v, termX), next+1)
			checkMade(t, p, mul(v, termOne), next+2)
		}
		for i, row := range p.Rows().Terms[next:] {
			if want := told(forms[0]); row.Num.Neg != want.Neg || !slices.Equal(row.Num.Abs, want.Abs) {
				t.Fatalf("the row %d of %v has the number %v", i, forms[0], row.Num)
			}
		}
		next += 3
	}
}

// Other numbers make other terms, by their signs and by each of their words.
func TestUnlikeNumbers(t *testing.T) {
	p := fewPool(t)
	all := []api.Int{
		of(), of(2), below(2), of(12), of(0, 1), below(0, 1), of(1, 1), of(1, 2), of(2, 1), of(1, 2, 1), of(0, 0, 1), of(12, 1), of(1, 21),
		of(11, 1), of(1, 11), of(1, 1, 1), of(math.MaxUint64), of(1 << 63), of(1 << 32), of(math.MaxInt64), below(1 << 63), of(math.MaxUint64, math.MaxUint64),
	}
	for range 2 {
		for i, v := range all {
			checkMade(t, p, num(v), 4+i)
		}
	}
	for range 2 {
		for i, v := range all {
			checkMade(t, p, mul(v, termX), 4+len(all)+i)
		}
	}
}

// Terms are the same only if all their fields are.
func TestUnlikeTerms(t *testing.T) {
	p := fewPool(t)
	next := 4
	for next < 130 {
		checkMade(t, p, num(of(uint64(next))), next)
		next++
	}
	numbers := []int{1, 3, 11, 12, 21, 23, 31, 111, 112, 121, 123}
	var all []api.Term
	for _, a := range numbers {
		all = append(all, app(symF, a), mul(of(1), a), mul(below(1), a), mul(of(12), a), mul(of(1, 2), a), mul(of(2), a))
		for _, b := range numbers {
			all = append(all, app(symQ, a, b), term(api.OpEq, a, b), term(api.OpLe, a, b), term(api.OpAdd, a, b))
			all = append(all, app(symG, a, b, 1, 1), app(symG, 1, 1, a, b), term(api.OpAdd, a, b, 1), term(api.OpAdd, 1, a, b), term(api.OpAdd, 1, 1, a, b))
		}
	}
	all = unlike(all)
	for range 2 {
		for i, what := range all {
			checkMade(t, p, what, next+i)
		}
	}
}

// unlike lets go of terms that are the same as one ahead.
func unlike(l []api.Term) []api.Term {
	var out []api.Term
	for _, a := range l {
		if !slices.ContainsFunc(out, func(b api.Term) bool { return equalTerm(a, b) }) {
			out = append(out, a)
		}
	}
	return out
}

// The order of parts, and the Op and the symbol alone, tell terms apart.
func TestUnlikeParts(t *testing.T) {
	syms := append(few(), named("f2", 1, api.Whole), named("y", 0, api.Whole))
	p := newPool(t, syms)
	for i, what := range []api.Term{
		app(symP), term(api.OpTrue), term(api.OpFalse), app(symX), app(6),
		term(api.OpAnd, 0, 1), term(api.OpAnd, 1, 0), term(api.OpOr, 0, 1), term(api.OpIff, 0, 1), term(api.OpIff, 1, 0),
		term(api.OpAnd, 0, 0), term(api.OpAnd, 0, 0, 0), term(api.OpNot, 0), term(api.OpNot, 1),
		term(api.OpLe, 3, 4), term(api.OpLe, 4, 3), term(api.OpEq, 3, 4), term(api.OpEq, 4, 3), term(api.OpAdd, 3, 4), term(api.OpAdd, 4, 3),
		app(symF, 3), app(5, 3), app(symF, 4), term(api.OpIte, 0, 3, 4), term(api.OpIte, 0, 4, 3), term(api.OpIte, 0, 0, 1), term(api.OpIte, 0, 1, 0),
	} {
		checkMade(t, p, what, i)
	}
}

func TestNoSymbol(t *testing.T) {
	p := fewPool(t)
	for _, sym := range []int{-1, 5, 6, 256, math.MaxInt, math.MinInt} {
		for _, args := range [][]int{nil, {termX}, {termP}, {-1}, many(99, 65)} {
			checkNotMade(t, p, app(sym, args...), api.ErrName)
		}
	}
	checkNotMade(t, newPool(t, nil), app(0), api.ErrName)
}

func TestNoPart(t *testing.T) {
	p := fewPool(t)
	for _, part := range []int{-1, 4, 5, 4096, math.MaxInt, math.MinInt} {
		for _, what := range eachOp() {
			if len(what.Args) == 0 {
				continue
			}
			for place := range what.Args {
				wrong := what
				wrong.Args = slices.Clone(what.Args)
				wrong.Args[place] = part
				checkNotMade(t, p, wrong, api.ErrArg)
			}
		}
	}
	checkNotMade(t, newPool(t, nil), term(api.OpNot, 0), api.ErrArg)
	checkMade(t, p, term(api.OpNot, termP), 4)
	checkMade(t, p, term(api.OpNot, 4), 5)
}

// counts are what an Op takes at least, and at most; all its parts are of one sort.
func counts() []struct{ op, sym, part, least, most int } {
	return []struct{ op, sym, part, least, most int }{
		{api.OpTrue, 0, termP, 0, 0}, {api.OpFalse, 0, termP, 0, 0}, {api.OpNum, 0, termX, 0, 0},
		{api.OpApp, symP, termX, 0, 0}, {api.OpApp, symX, termX, 0, 0}, {api.OpApp, symF, termX, 1, 1},
		{api.OpApp, symQ, termX, 2, 2}, {api.OpApp, symG, termX, 4, 4},
		{api.OpNot, 0, termP, 1, 1}, {api.OpAnd, 0, termP, 2, 64}, {api.OpOr, 0, termP, 2, 64}, {api.OpIff, 0, termP, 2, 2},
		{api.OpIte, 0, termP, 3, 3}, {api.OpEq, 0, termX, 2, 2}, {api.OpLe, 0, termX, 2, 2}, {api.OpAdd, 0, termX, 2, 64}, {api.OpMul, 0, termX, 1, 1},
	}
}

func TestCounts(t *testing.T) {
	for _, c := range counts() {
		p := fewPool(t)
		for _, count := range []int{0, 1, 2, 3, 4, 5, 6, 63, 64, 65, 66, 128, 1000} {
			what := api.Term{Op: c.op, Sym: c.sym, Args: many(c.part, count)}
			if count < c.least || count > c.most {
				checkNotMade(t, p, what, api.ErrCount)
			} else if _, err := p.Make(what); err != api.OK {
				t.Fatalf("Make of %v: error %d", what, err)
			}
		}
	}
}

func TestSorts(t *testing.T) {
	p := fewPool(t)
	for _, what := range []api.Term{
		app(symF, termP), app(symQ, termP, termX), app(symQ, termX, termTrue), app(symG, termX, termX, termX, termP),
		term(api.OpNot, termX), term(api.OpNot, termOne),
		term(api.OpAnd, termX, termP), term(api.OpAnd, termP, termX), term(api.OpAnd, append(many(termP, 63), termX)...),
		term(api.OpOr, termX, termP), term(api.OpOr, termP, termX), term(api.OpOr, termP, termP, termOne),
		term(api.OpIff, termX, termX), term(api.OpIff, termP, termX), term(api.OpIff, termX, termP),
		term(api.OpIte, termX, termX, termX), term(api.OpIte, termX, termP, termP), term(api.OpIte, termP, termX, termP), term(api.OpIte, termP, termP, termX),
		term(api.OpEq, termP, termP), term(api.OpEq, termP, termX), term(api.OpEq, termX, termP),
		term(api.OpLe, termP, termP), term(api.OpLe, termTrue, termX), term(api.OpLe, termX, termTrue),
		term(api.OpAdd, termP, termP), term(api.OpAdd, termX, termP), term(api.OpAdd, termP, termX), term(api.OpAdd, append(many(termX, 63), termP)...),
		mul(of(2), termP), mul(of(), termTrue),
	} {
		checkNotMade(t, p, what, api.ErrSort)
	}
}

// Of several things that are wrong the first one in the document's order counts.
func TestOrderOfErrors(t *testing.T) {
	p := fewPool(t)
	for _, c := range []struct {
		term api.Term
		err  api.Errno
	}{
		{api.Term{Op: api.OpApp, Sym: 9, Num: of(1)}, api.ErrForm},
		{api.Term{Op: api.OpApp, Sym: -1, Num: below(1), Args: []int{-1}}, api.ErrForm},
		{api.Term{Op: api.OpApp, Sym: symF, Num: of(1), Args: []int{99, 99}}, api.ErrForm},
		{api.Term{Op: api.OpNot, Num: of(1), Args: []int{99}}, api.ErrForm},
		{api.Term{Op: api.OpNot, Sym: 1, Args: []int{termP, termP}}, api.ErrForm},
		{api.Term{Op: api.OpNot, Sym: -1, Args: []int{termX}}, api.ErrForm},
		{api.Term{Op: api.OpNum, Num: of(1), Sym: 9, Args: []int{9}}, api.ErrForm},
		{app(9, -1), api.ErrName},
		{app(-1, termP, termP), api.ErrName},
		{app(symF, termX, 99), api.ErrArg},
		{app(symF, 99, termP), api.ErrArg},
		{app(symX, -1), api.ErrArg},
		{term(api.OpTrue, -1), api.ErrArg},
		{api.Term{Op: api.OpNum, Num: of(1), Args: []int{4}}, api.ErrArg},
		{term(api.OpNot, termX, 4), api.ErrArg},
		{term(api.OpAnd, 4), api.ErrArg},
		{term(api.OpAnd, append(many(termP, 64), -1)...), api.ErrArg},
		{term(api.OpAnd, append(many(termX, 1000), 4)...), api.ErrArg},
		{term(api.OpIte, termX, termP, 4), api.ErrArg},
		{term(api.OpTrue, termX), api.ErrCount},
		{app(symP, termP), api.ErrCount},
		{app(symF, termP, termP), api.ErrCount},
		{term(api.OpNot, termX, termX), api.ErrCount},
		{term(api.OpAnd, termX), api.ErrCount},
		{term(api.OpAnd, many(termX, 65)...), api.ErrCount},
		{term(api.OpIte, termX), api.ErrCount},
		{term(api.OpIte, termX, termP, termX, termP), api.ErrCount},
		{term(api.OpAdd, many(termP, 65)...), api.ErrCount},
		{mul(of(1), termP), api.ErrSort},
	} {
		checkNotMade(t, p, c.term, c.err)
	}
}

func TestTooManyTerms(t *testing.T) {
	p := fullPool(t)
	checkCheck(t, p.Rows(), api.OK)
	for _, what := range []api.Term{num(of(4094)), num(below(1)), num(of(0, 1)), term(api.OpNot, termP), term(api.OpAdd, 4095, termX), app(symF, 4095)} {
		checkNotMade(t, p, what, api.ErrLong)
		checkCheck(t, with(p.Rows(), what), api.ErrLong)
	}
	checkMade(t, p, app(symP), termP)
	checkMade(t, p, num(of(1, 0)), termOne)
	checkMade(t, p, num(of(4093)), 4095)
	checkMade(t, p, num(of(4093, 0)), 4095)
	for _, c := range []struct {
		term api.Term
		err  api.Errno
	}{
		{term(0), api.ErrForm}, {api.Term{Op: api.OpTrue, Num: of(1)}, api.ErrForm}, {api.Term{Op: api.OpTrue, Sym: 1}, api.ErrForm},
		{app(5), api.ErrName}, {term(api.OpNot, 4096), api.ErrArg}, {term(api.OpNot, -1), api.ErrArg},
		{term(api.OpNot), api.ErrCount}, {term(api.OpNot, 4095), api.ErrSort},
	} {
		checkNotMade(t, p, c.term, c.err)
		checkCheck(t, with(p.Rows(), c.term), c.err)
	}
	checkSort(t, p, 4095, api.Whole)
	checkNoSort(t, p, 4096)
}

// with is rows and further terms.
func with(r api.Terms, more ...api.Term) api.Terms {
	return api.Terms{Syms: r.Syms, Terms: slices.Concat(r.Terms, more)}
}

func checkNoSort(t *testing.T, p *pool.Pool, n int) {
	t.Helper()
	if got, err := p.Sort(n); got != 0 || err != api.ErrArg {
		t.Fatalf("Sort of %d: %d, %d", n, got, err)
	}
}

func TestSortOfNoTerm(t *testing.T) {
	for _, n := range []int{0, -1, 1, math.MaxInt, math.MinInt} {
		checkNoSort(t, newPool(t, few()), n)
	}
	p := fewPool(t)
	for _, n := range []int{-1, 4, 5, 4096, math.MaxInt, math.MinInt} {
		checkNoSort(t, p, n)
	}
	checkNotMade(t, p, term(api.OpNot, termX), api.ErrSort)
	checkNoSort(t, p, 4)
}

func TestNilPool(t *testing.T) {
	var p *pool.Pool
	for _, s := range append(badForms(), few()...) {
		if n, err := p.Declare(s); n != 0 || err != api.ErrArg {
			t.Fatalf("Declare of a nil pool: %d, %d", n, err)
		}
	}
	for _, what := range append(eachOp(), term(0), app(-1), term(api.OpNot, -1), term(api.OpTrue, 0)) {
		if n, err := p.Make(what); n != 0 || err != api.ErrArg {
			t.Fatalf("Make of a nil pool: %d, %d", n, err)
		}
	}
	for _, n := range []int{0, -1, 1, 4096} {
		checkNoSort(t, p, n)
	}
	checkRows(t, p, api.Terms{})
}
