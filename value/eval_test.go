package value_test

import (
	"math"
	"math/big"
	"slices"
	"testing"

	"elenchus/api"
	"elenchus/value"
)

func TestEvalOfTheExample(t *testing.T) {
	l := lay(t, named("f", 1, api.Whole))
	no := l.truth(false)
	three, four := l.add(num(of(3))), l.add(num(of(4)))
	table := api.Table{Rows: []api.Row{row(of(7), of(3))}, Else: of(1)}
	l.checkTruth(l.add(term(api.OpNot, no)), true, table)
	l.check(l.add(app(0, three)), big.NewInt(7), table)
	l.check(l.add(app(0, four)), big.NewInt(1), table)
}

func TestEvalOfTruths(t *testing.T) {
	for _, a := range []bool{false, true} {
		l := lay(t)
		x := l.truth(a)
		l.checkTruth(x, a)
		l.checkTruth(l.add(term(api.OpNot, x)), !a)
		l.checkTruth(l.add(term(api.OpAnd, x, x)), a)
		l.checkTruth(l.add(term(api.OpOr, x, x)), a)
		l.checkTruth(l.add(term(api.OpIff, x, x)), true)
		l.checkTruth(l.add(term(api.OpIte, x, x, x)), a)
		for _, b := range []bool{false, true} {
			y := l.truth(b)
			l.checkTruth(l.add(term(api.OpAnd, x, y)), a && b)
			l.checkTruth(l.add(term(api.OpOr, x, y)), a || b)
			l.checkTruth(l.add(term(api.OpIff, x, y)), a == b)
			l.checkTruth(l.add(term(api.OpIte, x, y, x)), a && b)
			l.checkTruth(l.add(term(api.OpIte, x, x, y)), a || b)
		}
	}
}

// Of conditions together each counts, wherever it stands.
func TestEvalOfManyTruths(t *testing.T) {
	l := lay(t)
	no, yes := l.truth(false), l.truth(true)
	for _, count := range []int{2, 3, 4, 63, 64} {
		l.checkTruth(l.add(term(api.OpAnd, slices.Repeat([]int{yes}, count)...)), true)
		l.checkTruth(l.add(term(api.OpAnd, slices.Repeat([]int{no}, count)...)), false)
		l.checkTruth(l.add(term(api.OpOr, slices.Repeat([]int{yes}, count)...)), true)
		l.checkTruth(l.add(term(api.OpOr, slices.Repeat([]int{no}, count)...)), false)
		for _, place := range []int{0, 1, count / 2, count - 1} {
			all, none := slices.Repeat([]int{yes}, count), slices.Repeat([]int{no}, count)
			all[place], none[place] = no, yes
			l.checkTruth(l.add(term(api.OpAnd, all...)), false)
			l.checkTruth(l.add(term(api.OpOr, all...)), true)
			l.checkTruth(l.add(term(api.OpAnd, none...)), false)
			l.checkTruth(l.add(term(api.OpOr, none...)), true)
		}
	}
}

// Numbers may stand in any form, and are told in one.
func TestEvalOfNumbers(t *testing.T) {
	for _, n := range someNumbers() {
		for _, v := range formsOf(n) {
			l := lay(t)
			x := l.add(num(v))
			l.check(x, n)
			r := api.Terms{Terms: []api.Term{num(v)}}
			if got, err := value.Eval(r, api.Model{}); err != api.OK || len(got) != 1 || !isTold(got[0], n) {
				t.Fatalf("Eval of %v: %v, %d, but it is %s", v, got, err, n)
			}
		}
	}
}

func TestEvalOfTwoNumbers(t *testing.T) {
	for _, a := range someNumbers() {
		for _, b := range someNumbers() {
			l := lay(t)
			x, y := l.number(a), l.number(b)
			l.checkTruth(l.add(term(api.OpEq, x, y)), a.Cmp(b) == 0)
			l.checkTruth(l.add(term(api.OpLe, x, y)), a.Cmp(b) <= 0)
			l.check(l.add(term(api.OpAdd, x, y)), new(big.Int).Add(a, b))
			l.check(l.add(term(api.OpAdd, x, y, x)), new(big.Int).Add(a, new(big.Int).Add(a, b)))
			for _, v := range formsOf(a) {
				l.check(l.add(mul(v, y)), new(big.Int).Mul(a, b))
			}
		}
	}
}

// Parts may be equal.
func TestEvalOfEqualParts(t *testing.T) {
	for _, n := range someNumbers() {
		l := lay(t)
		x := l.number(n)
		l.checkTruth(l.add(term(api.OpEq, x, x)), true)
		l.checkTruth(l.add(term(api.OpLe, x, x)), true)
		for _, count := range []int{2, 3, 63, 64} {
			l.check(l.add(term(api.OpAdd, slices.Repeat([]int{x}, count)...)), new(big.Int).Mul(n, big.NewInt(int64(count))))
		}
		l.check(l.add(term(api.OpIte, l.truth(true), x, x)), n)
		l.check(l.add(term(api.OpIte, l.truth(false), x, x)), n)
	}
}

// Of a sum each part counts, wherever it stands.
func TestEvalOfManyNumbers(t *testing.T) {
	l := lay(t)
	one, minus, great := l.add(num(of(1))), l.add(num(below(1))), l.add(num(of(0, 0, 1)))
	for _, count := range []int{2, 3, 64} {
		for place := range count {
			parts := slices.Repeat([]int{one}, count)
			parts[place] = great
			l.check(l.add(term(api.OpAdd, parts...)), new(big.Int).Add(meant(of(0, 0, 1)), big.NewInt(int64(count-1))))
			parts[place] = minus
			l.check(l.add(term(api.OpAdd, parts...)), big.NewInt(int64(count-2)))
		}
	}
	l.check(l.add(term(api.OpAdd, one, minus)), big.NewInt(0))
	l.check(l.add(term(api.OpAdd, great, minus, l.add(mul(below(1), great)))), big.NewInt(-1))
}

// An Ite is one of its branches, of either sort, and nothing of the other.
func TestEvalOfIte(t *testing.T) {
	l := lay(t, named("c", 0, api.Bool), named("x", 0, api.Whole), named("y", 0, api.Whole), named("p", 0, api.Bool), named("q", 0, api.Bool))
	var parts []int
	for sym := range 5 {
		parts = append(parts, l.add(app(sym)))
	}
	numbers := l.add(term(api.OpIte, parts[0], parts[1], parts[2]))
	truths := l.add(term(api.OpIte, parts[0], parts[3], parts[4]))
	within := l.add(term(api.OpIte, truths, l.add(term(api.OpIte, parts[3], parts[2], numbers)), parts[1]))
	for _, a := range someNumbers() {
		for _, b := range []*big.Int{big.NewInt(0), big.NewInt(5), meant(below(0, 1))} {
			x, y := constant(told(a)), constant(told(b))
			yes, no := constant(of(1)), constant(of())
			l.check(numbers, a, yes, x, y, no, no)
			l.check(numbers, b, no, x, y, yes, yes)
			l.checkTruth(truths, a.Sign() != 0, yes, x, y, x, y)
			l.checkTruth(truths, b.Sign() != 0, no, x, y, x, y)
			l.check(within, b, yes, x, y, yes, no)
			l.check(within, a, yes, x, y, no, yes)
			l.check(within, a, no, x, y, yes, no)
			l.check(within, b, no, x, y, yes, yes)
		}
	}
}

// A symbol may take as many numbers as it likes, and tells what its own table tells.
func TestEvalOfSymbols(t *testing.T) {
	for _, sort := range []int{api.Bool, api.Whole} {
		for arity := range 5 {
			syms := []api.Sym{named("a", 1, api.Whole), named("f", arity, sort), named("b", arity, sort)}
			l := lay(t, syms...)
			var parts []int
			var args []api.Int
			for i := range arity {
				args = append(args, told(big.NewInt(int64(i*i-2))))
				parts = append(parts, l.add(num(args[i])))
			}
			table := api.Table{Rows: []api.Row{row(of(55), append(args, of())...), row(of(7), args...), row(of(8), args...)}, Else: of()}
			want := expectedTell(syms[1], api.Table{Else: of(7)}, nil)
			f := l.add(app(1, parts...))
			l.check(f, want, constant(of(9)), table, constant(of()))
			l.check(f, big.NewInt(0), constant(of(9)), constant(of()), table)
			if arity > 0 {
				parts[arity-1] = l.add(num(of(1000)))
				l.check(l.add(app(1, parts...)), big.NewInt(0), constant(of(9)), table, constant(of(3)))
			}
		}
	}
}

// The same part may stand as often as it likes, and parts stand in their order.
func TestEvalOfPartsInOrder(t *testing.T) {
	l := lay(t, named("f", 2, api.Whole), named("x", 0, api.Whole), named("y", 0, api.Whole))
	x, y := l.add(app(1)), l.add(app(2))
	table := api.Table{Rows: []api.Row{row(of(11), of(3), of(3)), row(of(12), of(3), of(4)), row(of(13), of(4), of(3))}, Else: of(14)}
	given := []api.Table{table, constant(of(3)), constant(of(4))}
	l.check(l.add(app(0, x, x)), big.NewInt(11), given...)
	l.check(l.add(app(0, x, y)), big.NewInt(12), given...)
	l.check(l.add(app(0, y, x)), big.NewInt(13), given...)
	l.check(l.add(app(0, y, y)), big.NewInt(14), given...)
	l.checkTruth(l.add(term(api.OpLe, x, y)), true, given...)
	l.checkTruth(l.add(term(api.OpLe, y, x)), false, given...)
	inner := l.add(app(0, x, y))
	l.check(l.add(app(0, inner, inner)), big.NewInt(14), given...)
	l.check(l.add(term(api.OpAdd, inner, x, inner)), big.NewInt(27), given...)
}

// What a symbol of Bool tells is 0 or 1, whatever its table has.
func TestEvalOfTruthsThatAreTold(t *testing.T) {
	for _, n := range someNumbers() {
		for _, v := range formsOf(n) {
			l := lay(t, named("p", 0, api.Bool), named("q", 1, api.Bool))
			holds := n.Sign() != 0
			p := l.add(app(0))
			q := l.add(app(1, l.add(num(of(3)))))
			given := []api.Table{constant(v), {Rows: []api.Row{row(v, of(3))}}}
			l.checkTruth(p, holds, given...)
			l.checkTruth(q, holds, given...)
			l.checkTruth(l.add(term(api.OpNot, p)), !holds, given...)
			l.checkTruth(l.add(term(api.OpIff, p, l.truth(true))), holds, given...)
			l.checkTruth(l.add(term(api.OpIff, q, l.truth(false))), !holds, given...)
			l.checkTruth(l.add(term(api.OpAnd, p, q)), holds, given...)
			l.checkTruth(l.add(term(api.OpOr, q, p)), holds, given...)
			l.check(l.add(term(api.OpIte, p, l.add(num(of(5))), l.add(num(of(6))))), map[bool]*big.Int{true: big.NewInt(5), false: big.NewInt(6)}[holds], given...)
		}
	}
}

// All values stand in order.
func TestEvalInOrder(t *testing.T) {
	l := lay(t)
	var want []*big.Int
	for _, n := range someNumbers() {
		if l.number(n) != len(want) {
			t.Fatal("numbers aren't laid in order")
		}
		want = append(want, n)
	}
	got, err := value.Eval(l.p.Rows(), api.Model{})
	if err != api.OK || len(got) != len(want) {
		t.Fatalf("Eval: %d values, error %d", len(got), err)
	}
	for i := range want {
		if !isTold(got[i], want[i]) {
			t.Fatalf("the number %d is %v, but it is %s", i, got[i], want[i])
		}
	}
}

func TestEvalOfNoRows(t *testing.T) {
	for _, r := range []api.Terms{{}, {Syms: []api.Sym{}, Terms: []api.Term{}}} {
		for count := range 3 {
			if got, err := value.Eval(r, tables(count)); len(got) != 0 || err != api.OK {
				t.Fatalf("Eval of no rows: %v, %d", got, err)
			}
		}
	}
	if got, err := value.Eval(api.Terms{Syms: symbols(256)}, tables(256)); len(got) != 0 || err != api.OK {
		t.Fatalf("Eval of symbols alone: %v, %d", got, err)
	}
	if got, err := value.Eval(api.Terms{Syms: symbols(1)}, api.Model{}); len(got) != 0 || err != api.ErrMiss {
		t.Fatalf("Eval of a symbol without a table: %v, %d", got, err)
	}
}

// There may be too many tables, but not too few, whether or not a term asks for them.
func TestEvalOfTooFewTables(t *testing.T) {
	for _, count := range []int{0, 1, 2, 3, 255, 256} {
		r := api.Terms{Syms: symbols(count), Terms: []api.Term{term(api.OpFalse)}}
		for _, have := range []int{0, count - 1, count, count + 1, count + 300} {
			if have < 0 {
				continue
			}
			want, values := api.OK, 1
			if have < count {
				want, values = api.ErrMiss, 0
			}
			if got, err := value.Eval(r, tables(have)); err != want || len(got) != values {
				t.Fatalf("Eval of %d symbols by %d tables: %v, %d, but its error is %d", count, have, got, err, want)
			}
			if got, err := value.Holds(r, tables(have), 0); got || err != want {
				t.Fatalf("Holds of %d symbols by %d tables: %v, %d, but its error is %d", count, have, got, err, want)
			}
		}
	}
	l := lay(t, named("x", 0, api.Whole))
	l.check(l.add(app(0)), big.NewInt(4), constant(of(4)), constant(of(5)), api.Table{Rows: []api.Row{row(of(6))}})
}

// fault is rows that may not be, and what is wrong with them.
type fault struct {
	rows api.Terms
	err  api.Errno
}

// faults have a symbol at least, so that there may be too few tables, too.
func faults() []fault {
	syms := []api.Sym{named("p", 0, api.Bool), named("x", 0, api.Whole), named("f", 1, api.Whole)}
	over := func(last ...api.Term) api.Terms {
		return api.Terms{Syms: syms, Terms: append([]api.Term{app(0), app(1), term(api.OpTrue)}, last...)}
	}
	var many []api.Term
	for i := range 4097 {
		many = append(many, num(of(uint64(i))))
	}
	return []fault{
		{api.Terms{Syms: symbols(257)}, api.ErrLong},
		{api.Terms{Syms: append(symbols(256), api.Sym{}), Terms: []api.Term{{}}}, api.ErrLong},
		{api.Terms{Syms: []api.Sym{named("", 0, api.Bool)}}, api.ErrForm},
		{api.Terms{Syms: []api.Sym{named("f", 5, api.Bool)}}, api.ErrForm},
		{api.Terms{Syms: []api.Sym{named("f", -1, api.Bool)}}, api.ErrForm},
		{api.Terms{Syms: []api.Sym{named("f", 1, 3)}, Terms: []api.Term{{}}}, api.ErrForm},
		{api.Terms{Syms: []api.Sym{syms[0], syms[1], named("p", 1, api.Whole)}}, api.ErrName},
		{over(api.Term{}), api.ErrForm},
		{over(term(14, 99)), api.ErrForm},
		{over(term(-1)), api.ErrForm},
		{over(api.Term{Op: api.OpFalse, Num: of(1)}), api.ErrForm},
		{over(api.Term{Op: api.OpFalse, Sym: 1}), api.ErrForm},
		{over(term(api.OpTrue)), api.ErrForm},
		{over(num(of(1)), num(of(1, 0))), api.ErrForm},
		{over(app(3)), api.ErrName},
		{over(app(-1)), api.ErrName},
		{over(term(api.OpNot, 3)), api.ErrArg},
		{over(term(api.OpNot, 4), term(api.OpFalse)), api.ErrArg},
		{over(term(api.OpNot, -1)), api.ErrArg},
		{over(term(api.OpNot)), api.ErrCount},
		{over(term(api.OpAnd, 0)), api.ErrCount},
		{over(term(api.OpAnd, slices.Repeat([]int{0}, 65)...)), api.ErrCount},
		{over(app(2)), api.ErrCount},
		{over(app(0, 1)), api.ErrCount},
		{over(term(api.OpNot, 1)), api.ErrSort},
		{over(term(api.OpIte, 0, 0, 1)), api.ErrSort},
		{over(term(api.OpEq, 0, 0)), api.ErrSort},
		{over(app(2, 0)), api.ErrSort},
		{api.Terms{Syms: syms, Terms: many}, api.ErrLong},
	}
}

// What is wrong with rows comes ahead of what is wrong with tables, and with what is asked.
func TestFaultyRows(t *testing.T) {
	for i, f := range faults() {
		for _, count := range []int{0, 1, len(f.rows.Syms), len(f.rows.Syms) + 1} {
			if got, err := value.Eval(f.rows, tables(count)); len(got) != 0 || err != f.err {
				t.Fatalf("Eval of the faulty rows %d by %d tables: %d values, %d, but its error is %d", i, count, len(got), err, f.err)
			}
			for _, asked := range []int{0, 1, 2, -1, len(f.rows.Terms), math.MaxInt, math.MinInt} {
				if got, err := value.Holds(f.rows, tables(count), asked); got || err != f.err {
					t.Fatalf("Holds of %d of the faulty rows %d by %d tables: %v, %d, but its error is %d", asked, i, count, got, err, f.err)
				}
			}
		}
	}
}

// As many terms as there may be, each over the one ahead of it.
func TestEvalOfManyTerms(t *testing.T) {
	r := api.Terms{Syms: []api.Sym{named("x", 0, api.Whole)}, Terms: []api.Term{app(0)}}
	want := []*big.Int{big.NewInt(-3)}
	for i := 1; i < 4096; i++ {
		last := want[i-1]
		if i%2 == 0 {
			r.Terms = append(r.Terms, term(api.OpAdd, i-1, 0, i-1))
			want = append(want, new(big.Int).Add(new(big.Int).Add(last, last), want[0]))
		} else {
			r.Terms = append(r.Terms, mul(below(5), i-1))
			want = append(want, new(big.Int).Mul(last, big.NewInt(-5)))
		}
	}
	got, err := value.Eval(r, api.Model{Tables: []api.Table{constant(below(3))}})
	if err != api.OK || len(got) != 4096 {
		t.Fatalf("Eval of 4096 terms: %d values, error %d", len(got), err)
	}
	for i := range got {
		if !isTold(got[i], want[i]) {
			t.Fatalf("the number %d is %v, but it is %s", i, got[i], want[i])
		}
	}
}

func TestEvalOfGreatNumbers(t *testing.T) {
	words := slices.Repeat([]uint64{math.MaxUint64, 1, 0, 7}, 250)
	other := slices.Clone(words)
	other[0]--
	a, b := meant(of(words...)), meant(below(other...))
	l := lay(t, named("f", 2, api.Whole))
	x, y := l.number(a), l.number(b)
	table := api.Table{Rows: []api.Row{row(of(1), of(words...), of(other...)), row(of(words...), of(words...), below(other...))}, Else: below(other...)}
	l.check(l.add(app(0, x, y)), a, table)
	l.check(l.add(app(0, y, x)), b, table)
	l.check(l.add(term(api.OpAdd, x, y)), big.NewInt(1), table)
	l.check(l.add(mul(below(words...), y)), new(big.Int).Neg(new(big.Int).Mul(a, b)), table)
	l.checkTruth(l.add(term(api.OpEq, x, y)), false, table)
	l.checkTruth(l.add(term(api.OpLe, x, y)), false, table)
	l.checkTruth(l.add(term(api.OpLe, y, x)), true, table)
}
