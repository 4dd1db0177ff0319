package branch_test

import (
	"math"
	"testing"

	"elenchus/api"
	"elenchus/branch"
	"elenchus/tableau"
)

// checkRefused fails unless a call answers this error, which is layer 14's, and nothing beside it.
func (p problem) checkRefused(t *testing.T, fuel int, want api.Errno) {
	t.Helper()
	kind, numbers, core, used, e := branch.Solve(p.vars, p.rows, p.bounds, fuel)
	if e != want || kind != 0 || len(numbers) != 0 || len(core) != 0 || used != 0 {
		t.Fatalf("Solve of %v, fuel %d: %d, %v, %v, %d, error %d, but its error is %d", p, fuel, kind, numbers, core, used, e, want)
	}
	if _, _, _, _, under := tableau.Solve(p.vars, p.rows, p.bounds, fuel); under != e {
		t.Fatalf("Solve of %v, fuel %d: error %d, but layer 14's is %d", p, fuel, e, under)
	}
}

// The chapter's example, and those of the whole.
func TestExamples(t *testing.T) {
	twice := problem{vars: 1, rows: []api.Linear{sum(2, 0)}}
	twice.of(most(0, 3), least(0, 3)).isUnsat(t, 0, 1)
	if a := twice.of(most(0, 5), least(0, 3)).isSat(t); !isSameInt(a.numbers[0], small(2)) {
		t.Fatalf("2 x is from 3 to 5 by %v", a.numbers)
	}
	x := problem{vars: 1, rows: []api.Linear{sum(1, 0)}}
	x.of(most(0, 1), least(0, 2)).isUnsat(t, 0, 1)
	both := problem{2, []api.Linear{sum(1, 0), sum(1, 1), sum(2, 0, 3, 1)}, []api.Bound{most(0, 1), most(1, 2), least(2, 9)}}
	both.isUnsat(t, 0, 1, 2)
	both.bounds[2].Val = small(8)
	both.isSat(t)
}

func notVars() []int {
	return []int{-1, -2, api.MaxTerms + 1, api.MaxTerms + 2, 1 << 32, 1<<32 + 1, -1 << 32, math.MaxInt, math.MinInt, math.MinInt + 1}
}

func notFuel() []int {
	return []int{-1, -2, api.MaxFuel + 1, api.MaxFuel + 2, 1 << 32, 1<<32 + 1, -1 << 32, math.MaxInt, math.MinInt, math.MinInt + 1}
}

func allowedFuel() []int {
	return []int{0, 1, 2, 1000, api.MaxFuel - 1, api.MaxFuel}
}

func TestVars(t *testing.T) {
	for _, vars := range []int{0, 1, 2, 3, 4, api.MaxTerms - 1, api.MaxTerms} {
		p := problem{vars: vars}
		for _, fuel := range []int{1000, api.MaxFuel - 1, api.MaxFuel} {
			if a := p.ask(t, fuel); a.kind != api.Sat {
				t.Fatalf("Solve of %d variables alone, fuel %d: %d, %d was used", vars, fuel, a.kind, a.used)
			}
		}
		if vars > 0 {
			p = problem{vars, []api.Linear{sum(1, int64(vars-1)), sum(2, 0)}, []api.Bound{least(0, 5), most(1, 11), least(1, 10)}}
			a := p.enough(t)
			if a.kind != api.Sat || meant(a.numbers[vars-1]).Int64() < 5 || meant(a.numbers[0]).Int64() != 5 {
				t.Fatalf("of %d variables the last one is at least 5, twice the first is from 10 to 11: %d", vars, a.kind)
			}
		}
	}
	for _, vars := range notVars() {
		for _, fuel := range append(notFuel(), allowedFuel()...) {
			problem{vars: vars}.checkRefused(t, fuel, api.ErrArg)
			problem{vars: vars, rows: []api.Linear{sum(1, 0)}, bounds: []api.Bound{least(0, 1)}}.checkRefused(t, fuel, api.ErrArg)
		}
	}
}

func TestFuels(t *testing.T) {
	p := problem{2, []api.Linear{sum(1, 0), sum(2, 0, 2, 1)}, []api.Bound{least(0, 1), most(1, 3), least(1, 1)}}
	for _, q := range []problem{{}, p, p.of(), p.of(most(0, 1), least(0, 2))} {
		for _, fuel := range allowedFuel() {
			q.ask(t, fuel)
		}
		for _, fuel := range notFuel() {
			q.checkRefused(t, fuel, api.ErrArg)
		}
	}
}

// notSums are rows of variables 0 to 2 that are no sums.
func notSums() []api.Linear {
	out := []api.Linear{
		sum(1, 0, 1, 0), sum(1, 0, -1, 0), sum(1, 1, 1, 0), sum(1, 0, 1, 2, 1, 1), sum(1, 0, 1, 1, 1, 1), sum(2, 2, 2, 1, 2, 0), sum(2, 1, 2, 2, 2, 0), sum(2, 0, 2, 1, 2, 0),
	}
	for _, zero := range zeros() {
		part := func(coef api.Int, v int) api.Part { return api.Part{Coef: coef, Term: v} }
		out = append(out,
			api.Linear{Parts: []api.Part{part(zero, 0)}},
			api.Linear{Parts: []api.Part{part(zero, 0), part(zero, 1)}},
			api.Linear{Parts: []api.Part{part(zero, 0), part(of(2), 1)}},
			api.Linear{Parts: []api.Part{part(of(1), 0), part(zero, 1), part(of(1), 2)}},
			api.Linear{Parts: []api.Part{part(of(2), 0), part(of(4), 1), part(zero, 2)}})
	}
	return out
}

// withConst are rows whose Const isn't 0.
func withConst() []api.Linear {
	var out []api.Linear
	for _, n := range []api.Int{of(1), below(1), of(2, 0), below(1, 0, 0), of(0, 1), below(0, 0, 7, 0), of(math.MaxUint64), below(5, 5), told(long(300, 1))} {
		for _, l := range []api.Linear{sum(), sum(1, 0), sum(-2, 0, 4, 2)} {
			l.Const = n
			out = append(out, l)
		}
	}
	return out
}

// ofNoVariable are rows of which a part is none of the variables 0 to vars-1.
func ofNoVariable(vars int) []api.Linear {
	out := []api.Linear{sum(1, -1), sum(2, -2), sum(1, math.MinInt), sum(1, int64(vars)), sum(-1, int64(vars)+1), sum(1, api.MaxTerms), sum(1, 1<<32), sum(1, math.MaxInt), sum(1, -1, 1, int64(vars)), sum(1, math.MinInt, 1, math.MaxInt)}
	if vars > 0 {
		out = append(out, sum(1, -1, 1, 0), sum(2, math.MinInt, 2, 0), sum(1, 0, 3, int64(vars)), sum(1, int64(vars-1), 1, int64(vars)), sum(1, 0, 1, math.MaxInt))
	}
	return out
}

// checkFaultyRow fails unless a row is refused, wherever it stands, and whether it has bounds or not.
func checkFaultyRow(t *testing.T, vars int, l api.Linear) {
	t.Helper()
	good := sum()
	if vars > 0 {
		good = sum(2, int64(vars-1))
	}
	for _, rows := range [][]api.Linear{{l}, {good, l}, {l, good}, {good, l, good}, {l, l}} {
		p := problem{vars: vars, rows: rows}
		for _, bounds := range [][]api.Bound{nil, {most(0, 1)}, {most(len(rows)-1, 1), least(0, 3)}} {
			for _, fuel := range []int{0, 1, api.MaxFuel} {
				p.of(bounds...).checkRefused(t, fuel, api.ErrForm)
			}
		}
	}
}

func TestFaultyRows(t *testing.T) {
	for _, l := range append(notSums(), withConst()...) {
		checkFaultyRow(t, 3, l)
	}
	for _, vars := range []int{0, 1, 2, 3, api.MaxTerms - 1, api.MaxTerms} {
		for _, l := range ofNoVariable(vars) {
			checkFaultyRow(t, vars, l)
		}
	}
}

// A Const that is 0 is one in each form, and numbers mean the same in each form.
func TestFormsOfNumbers(t *testing.T) {
	for _, zero := range zeros() {
		row := api.Linear{Parts: []api.Part{{Coef: of(2, 0), Term: 0}, {Coef: below(4, 0, 0), Term: 1}}, Const: zero}
		none := api.Linear{Const: zero}
		p := problem{2, []api.Linear{row, none, {Parts: []api.Part{{Coef: below(1, 0), Term: 1}}, Const: zero}}, nil}
		five, mind := api.Bound{Upper: true, Val: of(5, 0, 0)}, api.Bound{Row: 2, Upper: true, Val: below(2, 0)}
		p.of(five, mind, api.Bound{Row: 1, Val: zero}, api.Bound{Row: 1, Upper: true, Val: zero}).isSat(t)
		p.of(api.Bound{Val: zero}, api.Bound{Upper: true, Val: zero}, mind).isSat(t)
		p.of(api.Bound{Val: of(1, 0)}, api.Bound{Upper: true, Val: zero}).isUnsat(t, 0, 1)
		p.of(api.Bound{Row: 1, Val: of(1, 0)}, five).isUnsat(t, 0)
		p.of(five, api.Bound{Row: 1, Upper: true, Val: below(0, 1, 0)}).isUnsat(t, 1)
	}
}

func TestBoundsOfNoRow(t *testing.T) {
	for count := range 4 {
		p := problem{vars: 2}
		for range count {
			p.rows = append(p.rows, sum(2, 0, 2, 1))
		}
		for _, row := range []int{-1, -2, count, count + 1, 1 << 32, -1 << 32, math.MaxInt, math.MinInt} {
			for _, upper := range []bool{false, true} {
				bad := api.Bound{Row: row, Upper: upper, Val: small(1)}
				for _, fuel := range []int{0, 1, api.MaxFuel} {
					p.of(bad).checkRefused(t, fuel, api.ErrArg)
					p.of(bad, bad).checkRefused(t, fuel, api.ErrArg)
					if count > 0 {
						p.of(bad, most(0, 1)).checkRefused(t, fuel, api.ErrArg)
						p.of(most(count-1, 1), least(0, 2), bad).checkRefused(t, fuel, api.ErrArg)
					}
				}
			}
		}
	}
}

// Where several things are wrong at once, how many variables and how much fuel there are comes first,
// then the rows, then the bounds.
func TestWhichErrorComes(t *testing.T) {
	faulty := append(append(notSums(), withConst()...), ofNoVariable(3)...)
	bad := []api.Bound{{Row: -1}, {Row: 2, Upper: true}, {Row: math.MinInt}, {Row: math.MaxInt, Val: small(1)}}
	for _, l := range faulty {
		for _, b := range bad {
			p := problem{3, []api.Linear{sum(2, 0), l}, []api.Bound{most(0, 0), b, least(0, 1)}}
			p.checkRefused(t, 0, api.ErrForm)
			p.checkRefused(t, api.MaxFuel, api.ErrForm)
			for _, fuel := range notFuel() {
				p.checkRefused(t, fuel, api.ErrArg)
			}
			for _, vars := range notVars() {
				p.vars = vars
				p.checkRefused(t, 0, api.ErrArg)
				p.checkRefused(t, -1, api.ErrArg)
			}
		}
	}
	for _, b := range bad {
		p := problem{3, []api.Linear{sum(2, 0), sum(2, 1)}, []api.Bound{most(0, 0), least(0, 1), b}}
		p.checkRefused(t, 100, api.ErrArg)
		p.vars = 1
		p.checkRefused(t, 100, api.ErrForm)
		p.checkRefused(t, -1, api.ErrArg)
		p.vars = -1
		p.checkRefused(t, 100, api.ErrArg)
	}
}
