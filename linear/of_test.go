package linear_test

import (
	"math/big"
	"slices"
	"testing"

	"elenchus/api"
	"elenchus/linear"
)

// The symbols of most tests, by their numbers in this order.
const (
	symP = iota // of Bool
	symX        // of Whole
	symY        // of Whole
	symF        // a function of one number, of Whole
	symG        // of four, of Whole
	symQ        // of one, of Bool
)

func few() []api.Sym {
	return []api.Sym{named("p", 0, api.Bool), named("x", 0, api.Whole), named("y", 0, api.Whole), named("f", 1, api.Whole), named("g", 4, api.Whole), named("q", 1, api.Bool)}
}

func TestExampleOfTheDocument(t *testing.T) {
	l := lay(t, few()...)
	x, three := l.add(app(symX)), l.add(num(small(3)))
	twice := l.add(mul(small(2), l.add(term(api.OpAdd, x, three))))
	l.check(l.add(term(api.OpAdd, twice, x)), smallSum(6, 3, int64(x)))
}

func TestOfNumbers(t *testing.T) {
	for _, n := range someNumbers() {
		for _, form := range formsOf(n) {
			r := api.Terms{Terms: []api.Term{num(form)}}
			checkOf(t, r, 0, accountOf(sum(told(n))))
			checkAll(t, r)
		}
	}
}

// A function of numbers is taken once as it stands, whatever its parts are.
func TestOfApps(t *testing.T) {
	l := lay(t, few()...)
	x, y, seven := l.add(app(symX)), l.add(app(symY)), l.add(num(small(7)))
	both := l.add(term(api.OpAdd, x, y))
	l.check(x, smallSum(0, 1, int64(x)))
	l.check(y, smallSum(0, 1, int64(y)))
	for _, made := range []api.Term{app(symF, x), app(symF, seven), app(symF, both), app(symG, x, x, both, seven)} {
		n := l.add(made)
		l.check(n, smallSum(0, 1, int64(n)))
	}
	within := l.add(app(symF, l.add(app(symF, x))))
	l.check(within, smallSum(0, 1, int64(within)))
}

// One of two is taken once as it stands, even if both are the same, or numbers.
func TestOfIte(t *testing.T) {
	l := lay(t, few()...)
	p, x, y := l.add(app(symP)), l.add(app(symX)), l.add(app(symY))
	two, three := l.add(num(small(2))), l.add(num(small(3)))
	for _, made := range []api.Term{term(api.OpIte, p, x, y), term(api.OpIte, p, x, x), term(api.OpIte, p, two, three), term(api.OpIte, p, two, two)} {
		n := l.add(made)
		l.check(n, smallSum(0, 1, int64(n)))
		l.check(l.add(term(api.OpAdd, n, n, x)), smallSum(0, 1, int64(x), 2, int64(n)))
	}
	inner := l.add(term(api.OpIte, p, x, two))
	outer := l.add(term(api.OpIte, p, inner, y))
	l.check(outer, smallSum(0, 1, int64(outer)))
}

func TestOfAdd(t *testing.T) {
	l := lay(t, few()...)
	x, y := l.add(app(symX)), l.add(app(symY))
	four, less := l.add(num(small(4))), l.add(num(small(-9)))
	l.check(l.add(term(api.OpAdd, x, y)), smallSum(0, 1, int64(x), 1, int64(y)))
	l.check(l.add(term(api.OpAdd, y, x)), smallSum(0, 1, int64(x), 1, int64(y)))
	l.check(l.add(term(api.OpAdd, x, x)), smallSum(0, 2, int64(x)))
	l.check(l.add(term(api.OpAdd, four, less)), smallSum(-5))
	l.check(l.add(term(api.OpAdd, y, four, x, less, y)), smallSum(-5, 1, int64(x), 2, int64(y)))
	l.check(l.add(term(api.OpAdd, slices.Repeat([]int{x}, api.MaxArgs)...)), smallSum(0, 64, int64(x)))
	l.check(l.add(term(api.OpAdd, slices.Repeat([]int{four, y}, api.MaxArgs/2)...)), smallSum(128, 32, int64(y)))
}

func TestOfMul(t *testing.T) {
	l := lay(t, few()...)
	x, five := l.add(app(symX)), l.add(num(small(5)))
	plus := l.add(term(api.OpAdd, x, five))
	for _, k := range someNumbers() {
		for _, form := range formsOf(k) {
			five := new(big.Int).Mul(k, big.NewInt(5))
			l.check(l.add(mul(form, plus)), accountSum(five, k, x))
		}
	}
	twice := l.add(mul(small(2), l.add(mul(small(-3), plus))))
	l.check(twice, smallSum(-30, -6, int64(x)))
}

// accountSum is a sum of one term, told; of none, if that is taken 0 times.
func accountSum(rest, times *big.Int, term int) api.Linear {
	if times.Sign() == 0 {
		return sum(told(rest))
	}
	return sum(told(rest), part(told(times), term))
}

// What comes to 0 times is let go, of one term or of all of them.
func TestOfWhatComesToNothing(t *testing.T) {
	l := lay(t, few()...)
	x, y, three := l.add(app(symX)), l.add(app(symY)), l.add(num(small(3)))
	all := l.add(term(api.OpAdd, x, y, three))
	noX, noAll := l.add(mul(small(-1), x)), l.add(mul(small(-1), all))
	l.check(l.add(term(api.OpAdd, all, noX)), smallSum(3, 1, int64(y)))
	l.check(l.add(term(api.OpAdd, x, noX)), smallSum(0))
	l.check(l.add(term(api.OpAdd, all, noAll)), smallSum(0))
	for _, zero := range zeros() {
		nothing := l.add(mul(zero, all))
		l.check(nothing, smallSum(0))
		l.check(l.add(term(api.OpAdd, nothing, x)), smallSum(0, 1, int64(x)))
		l.check(l.add(mul(small(5), nothing)), smallSum(0))
	}
	// It comes back where it is taken once more.
	back := l.add(term(api.OpAdd, l.add(term(api.OpAdd, all, noX)), x))
	l.check(back, smallSum(3, 1, int64(x), 1, int64(y)))
	l.check(l.add(term(api.OpAdd, x, noX, x)), smallSum(0, 1, int64(x)))
}

func TestOfGreatNumbers(t *testing.T) {
	l := lay(t, few()...)
	x := l.add(app(symX))
	great := new(big.Int).Lsh(big.NewInt(1), 1000)
	k := l.add(num(told(great)))
	plus := l.add(term(api.OpAdd, x, k))
	more := l.add(mul(told(new(big.Int).Neg(great)), plus))
	square := new(big.Int).Mul(great, great)
	l.check(more, accountSum(new(big.Int).Neg(square), new(big.Int).Neg(great), x))
	l.check(l.add(term(api.OpAdd, more, l.add(mul(told(great), x)))), sum(told(new(big.Int).Neg(square))))
}

// A term of which many are made, again and again, is summed up as often as it is taken.
func TestOfSharedTerms(t *testing.T) {
	l := lay(t, few()...)
	x, one := l.add(app(symX)), l.add(num(small(1)))
	n := l.add(term(api.OpAdd, x, one))
	for range 200 {
		n = l.add(term(api.OpAdd, n, n))
	}
	power := new(big.Int).Lsh(big.NewInt(1), 200)
	l.check(n, accountSum(power, power, x))
	for range 50 {
		n = l.add(term(api.OpAdd, n, l.add(mul(small(-2), n)), x))
	}
	checkAll(t, l.p.Rows())
}

func TestOfManyTermsSharedByMany(t *testing.T) {
	l := lay(t, few()...)
	last := []int{l.add(app(symX)), l.add(app(symY)), l.add(num(small(3)))}
	for len(last) < 200 {
		tail := last[max(0, len(last)-5):]
		last = append(last, l.add(mul(small(int64(len(last)%7-3)), l.add(term(api.OpAdd, tail...)))))
	}
	checkAll(t, l.p.Rows())
}

// The last term of rows that are full, and the longest way down to the first.
func TestOfFullRows(t *testing.T) {
	l := lay(t, few()...)
	x, one := l.add(app(symX)), l.add(num(small(1)))
	n := x
	for i := 2; i < api.MaxTerms; i++ {
		n = l.add(term(api.OpAdd, n, one))
	}
	r := l.p.Rows()
	checkOf(t, r, api.MaxTerms-1, accountOf(smallSum(api.MaxTerms-2, 1, int64(x))))
	all, err := linear.All(r)
	if err != api.OK || len(all) != api.MaxTerms || !accountOf(smallSum(api.MaxTerms-2, 1, int64(x))).isSum(all[api.MaxTerms-1]) {
		t.Fatalf("All of full rows: %d sums, error %d", len(all), err)
	}
}

// Terms of Bool have no sum, those among them that are parts of others, or have such parts.
func TestTermsOfBool(t *testing.T) {
	l := lay(t, few()...)
	p, x, y := l.add(app(symP)), l.add(app(symX)), l.add(app(symY))
	yes := l.add(term(api.OpTrue))
	for _, made := range []api.Term{
		term(api.OpFalse), term(api.OpNot, p), term(api.OpAnd, p, yes), term(api.OpOr, p, yes), term(api.OpIff, p, yes),
		term(api.OpIte, p, yes, p), term(api.OpEq, x, y), term(api.OpLe, x, y), app(symQ, x),
	} {
		n := l.add(made)
		if got, err := linear.Of(l.p.Rows(), n); err != api.ErrSort || !isNoSum(got) {
			t.Fatalf("Of of %v: %v, error %d", made, got, err)
		}
	}
	checkAll(t, l.p.Rows())
}

func TestAllOfNoRows(t *testing.T) {
	for _, r := range []api.Terms{{}, {Syms: []api.Sym{}, Terms: []api.Term{}}, {Syms: few()}} {
		if all, err := linear.All(r); err != api.OK || len(all) != 0 {
			t.Fatalf("All of no rows: %v, error %d", all, err)
		}
		for _, n := range []int{-1, 0, 1} {
			if got, err := linear.Of(r, n); err != api.ErrArg || !isNoSum(got) {
				t.Fatalf("Of of %d of no rows: %v, error %d", n, got, err)
			}
		}
	}
}

func TestOfWhatIsNoTerm(t *testing.T) {
	r := api.Terms{Syms: few(), Terms: []api.Term{app(symX), app(symP), num(small(4))}}
	for _, n := range []int{-1, -2, 3, 4, 4096, -1 << 62, 1<<63 - 1, -1 << 63} {
		if got, err := linear.Of(r, n); err != api.ErrArg || !isNoSum(got) {
			t.Fatalf("Of of %d of three terms: %v, error %d", n, got, err)
		}
	}
}

// faulty are rows with something wrong behind a number and a truth, by the error.
func faulty() map[api.Errno][]api.Terms {
	behind := func(terms ...api.Term) api.Terms {
		return api.Terms{Syms: few(), Terms: append([]api.Term{num(small(4)), term(api.OpTrue)}, terms...)}
	}
	full := behind()
	for i := range uint64(api.MaxTerms - 1) {
		full.Terms = append(full.Terms, num(of(i, 1)))
	}
	syms := func(more ...api.Sym) api.Terms {
		return api.Terms{Syms: append(few(), more...), Terms: behind().Terms}
	}
	return map[api.Errno][]api.Terms{
		api.ErrForm: {
			behind(term(0)), behind(term(14)), behind(api.Term{Op: api.OpTrue, Num: small(1)}), behind(api.Term{Op: api.OpNum, Sym: 1}),
			behind(num(of(4, 0))), behind(term(api.OpTrue)), syms(named("", 0, 1)), syms(named("z", 5, 1)), syms(named("z", -1, 1)), syms(named("z", 0, 3)),
		},
		api.ErrName:  {behind(app(6)), behind(app(-1)), syms(named("x", 0, api.Whole))},
		api.ErrArg:   {behind(term(api.OpAdd, 0, 2)), behind(mul(small(1), -1)), behind(app(symF, 3))},
		api.ErrCount: {behind(term(api.OpAdd, 0)), behind(term(api.OpAdd, slices.Repeat([]int{0}, 65)...)), behind(app(symF)), behind(app(symX, 0)), behind(api.Term{Op: api.OpMul})},
		api.ErrSort:  {behind(term(api.OpAdd, 0, 1)), behind(mul(small(2), 1)), behind(app(symF, 1)), behind(term(api.OpIte, 1, 1, 0)), behind(term(api.OpIte, 0, 0, 0))},
		api.ErrLong:  {full, {Syms: symbols(api.MaxSyms + 1), Terms: behind().Terms}},
	}
}

// What is wrong with the rows comes first, whatever is asked of them.
func TestFaultyRows(t *testing.T) {
	for want, all := range faulty() {
		for _, r := range all {
			if got, err := linear.All(r); err != want || len(got) != 0 {
				t.Fatalf("All of rows of error %d: %d sums, error %d", want, len(got), err)
			}
			for _, n := range []int{0, 1, 2, -1, -1 << 63, len(r.Terms) - 1, len(r.Terms), 1<<63 - 1} {
				if got, err := linear.Of(r, n); err != want || !isNoSum(got) {
					t.Fatalf("Of of %d of rows of error %d: %v, error %d", n, want, got, err)
				}
			}
		}
	}
}
