package linear_test

import (
	"math"
	"math/big"
	"math/rand/v2"
	"strconv"
	"testing"

	"elenchus/api"
	"elenchus/linear"
	"elenchus/value"
)

// chance is the same in each run.
func chance() *rand.Rand {
	return rand.New(rand.NewPCG(6, 24))
}

func anyOf[T any](r *rand.Rand, l ...T) T {
	return l[r.IntN(len(l))]
}

// anyInt is in any form; mostly it is small, so that parts come to 0.
func anyInt(r *rand.Rand) api.Int {
	v := api.Int{Neg: r.IntN(2) == 0}
	if r.IntN(4) > 0 {
		v.Abs = append(v.Abs, uint64(r.IntN(4)))
	}
	if r.IntN(6) == 0 {
		for range r.IntN(4) {
			v.Abs = append(v.Abs, anyOf[uint64](r, 0, 0, 1, 5, math.MaxUint64))
		}
	}
	return v
}

// grown are rows that grow, and their terms' numbers by their sorts.
type grown struct {
	laid
	r    *rand.Rand
	syms []api.Sym
	of   map[int][]int
}

func grow(t *testing.T, r *rand.Rand) grown {
	t.Helper()
	syms := []api.Sym{named("x", 0, api.Whole)}
	for i := range 1 + r.IntN(6) {
		syms = append(syms, named("s"+strconv.Itoa(i), anyOf(r, 0, 0, 0, r.IntN(5)), anyOf(r, api.Bool, api.Whole, api.Whole)))
	}
	return grown{lay(t, syms...), r, syms, map[int][]int{}}
}

// anyTerm has parts of the right sorts; where there are none yet, it has no parts.
// Sums and products are the most.
func (g grown) anyTerm() api.Term {
	op := anyOf(g.r, 1+g.r.IntN(13), api.OpAdd, api.OpAdd, api.OpMul, api.OpApp)
	count, sort := 0, api.Bool
	switch op {
	case api.OpNum:
		return num(anyInt(g.r))
	case api.OpApp:
		sym := g.r.IntN(len(g.syms))
		return app(sym, g.parts(g.syms[sym].Arity, api.Whole)...)
	case api.OpIte:
		return term(op, append(g.parts(1, api.Bool), g.parts(2, 1+g.r.IntN(2))...)...)
	case api.OpMul:
		t := mul(anyInt(g.r), 0)
		t.Args = g.parts(1, api.Whole)
		return t
	case api.OpNot:
		count = 1
	case api.OpAnd, api.OpOr:
		count = 2 + g.r.IntN(3)
	case api.OpIff:
		count = 2
	case api.OpEq, api.OpLe:
		count, sort = 2, api.Whole
	case api.OpAdd:
		count, sort = 2+g.r.IntN(4), api.Whole
	}
	return term(op, g.parts(count, sort)...)
}

func (g grown) parts(count, sort int) []int {
	var out []int
	for range count {
		if len(g.of[sort]) == 0 {
			return nil
		}
		out = append(out, anyOf(g.r, g.of[sort]...))
	}
	return out
}

// rows are some terms; what may not be is left out.
func (g grown) rows(count int) api.Terms {
	for range count {
		n, err := g.p.Make(g.anyTerm())
		if err != api.OK {
			continue
		}
		sort, _ := g.p.Sort(n)
		g.of[sort] = append(g.of[sort], n)
	}
	return g.p.Rows()
}

// raw are the same rows, their numbers in other forms.
func (g grown) raw(r api.Terms) api.Terms {
	out := api.Terms{Syms: r.Syms}
	for _, t := range r.Terms {
		t.Num = anyOf(g.r, formsOf(meant(t.Num))...)
		out.Terms = append(out.Terms, t)
	}
	return out
}

func (g grown) model() api.Model {
	var m api.Model
	for _, s := range g.syms {
		t := api.Table{Else: anyInt(g.r)}
		for range g.r.IntN(6) {
			line := api.Row{Val: anyInt(g.r)}
			for range s.Arity {
				line.Args = append(line.Args, anyInt(g.r))
			}
			t.Rows = append(t.Rows, line)
		}
		m.Tables = append(m.Tables, t)
	}
	return m
}

// Whatever rows are given, sums are as the document asks.
func TestOfAnyRows(t *testing.T) {
	r := chance()
	for range 300 {
		g := grow(t, r)
		checkAll(t, g.raw(g.rows(50)))
	}
}

// A term's value is its sum's, whatever the model.
func TestValuesOfSums(t *testing.T) {
	r := chance()
	for range 300 {
		g := grow(t, r)
		rows := g.rows(50)
		all, err := linear.All(rows)
		if err != api.OK {
			t.Fatalf("All of %v: error %d", rows, err)
		}
		for range 4 {
			m := g.model()
			values, err := value.Eval(rows, m)
			if err != api.OK {
				t.Fatalf("Eval of %v by %v: error %d", rows, m, err)
			}
			for _, n := range g.of[api.Whole] {
				checkValue(t, all[n], values, meant(values[n]))
			}
		}
	}
}

// anyList is any list of parts: terms come twice, out of order and 0 times.
func anyList(r *rand.Rand) api.Linear {
	l := sum(anyInt(r))
	for range r.IntN(7) {
		l.Parts = append(l.Parts, part(anyInt(r), r.IntN(7)-1))
	}
	return l
}

// anySum is a sum: of terms from 0 on, numbers in any form.
func anySum(r *rand.Rand) api.Linear {
	l := sum(anyInt(r))
	for n := range 5 {
		if v := anyInt(r); meant(v).Sign() != 0 && r.IntN(2) == 0 {
			l.Parts = append(l.Parts, part(v, n))
		}
	}
	return l
}

// expectedIs asks of each two parts, and of each one, whether a sum may have them.
func expectedIs(l api.Linear) bool {
	out := true
	for i, p := range l.Parts {
		out = out && meant(p.Coef).Sign() != 0
		for _, behind := range l.Parts[i+1:] {
			out = out && behind.Term > p.Term
		}
	}
	return out
}

func TestAnyLists(t *testing.T) {
	r := chance()
	for range 5000 {
		a, b := anyOf(r, anyList(r), anySum(r)), anyOf(r, anyList(r), anySum(r))
		checkAdd(t, a, b)
		checkScale(t, a, anyInt(r))
		checkIs(t, a, expectedIs(a))
		checkAnyValue(t, r, a)
		checkAnyTight(t, r, a)
	}
}

func checkAnyValue(t *testing.T, r *rand.Rand, l api.Linear) {
	t.Helper()
	values := make([]api.Int, r.IntN(8))
	for i := range values {
		values[i] = anyInt(r)
	}
	for _, p := range l.Parts {
		if p.Term < 0 || p.Term >= len(values) {
			checkMiss(t, l, values)
			return
		}
	}
	checkValue(t, l, values, expectedValue(l, values))
}

// checkAnyTight fails unless a list is refused, or tightened, as the document asks.
func checkAnyTight(t *testing.T, r *rand.Rand, l api.Linear) {
	t.Helper()
	switch {
	case !expectedIs(l):
		checkNotTight(t, l, api.ErrForm)
		return
	case len(l.Parts) == 0:
		checkNotTight(t, l, api.ErrArg)
		return
	}
	divisor := new(big.Int)
	for _, p := range l.Parts {
		divisor.GCD(nil, nil, divisor, new(big.Int).Abs(meant(p.Coef)))
	}
	want := newAccount()
	for _, p := range l.Parts {
		want.at(p.Term).Quo(meant(p.Coef), divisor)
	}
	got, k, err := linear.Tight(l)
	if err != api.OK || !want.isSum(got) || !isTold(k, floor(new(big.Int).Neg(meant(l.Const)), divisor)) {
		t.Fatalf("Tight of %v: %v, at most %v, error %d, but it is %v", l, got, k, err, want)
	}
	checkBound(t, r, l, got, k)
}

// checkBound fails unless, by any whole values, a sum is at most 0 just if the other is at most k.
func checkBound(t *testing.T, r *rand.Rand, l, tight api.Linear, k api.Int) {
	t.Helper()
	values := make([]api.Int, 7)
	for i := range values {
		values[i] = anyInt(r)
	}
	for _, p := range l.Parts {
		if p.Term < 0 {
			return
		}
	}
	asked := expectedValue(l, values).Sign() <= 0
	if answered := expectedValue(tight, values).Cmp(meant(k)) <= 0; answered != asked {
		t.Fatalf("Tight of %v: %v, at most %v: by %v that is %v, but what was asked is %v", l, tight, k, values, answered, asked)
	}
}

// Sums go together as numbers' do: a sum's value is the values' sum, and so many times it so many times the value.
func TestValuesGoTogether(t *testing.T) {
	r := chance()
	values := make([]api.Int, 8)
	for range 2000 {
		for i := range values {
			values[i] = anyInt(r)
		}
		a, b, k := anySum(r), anySum(r), anyInt(r)
		x, y := expectedValue(a, values), expectedValue(b, values)
		checkValue(t, linear.Add(a, b), values, new(big.Int).Add(x, y))
		checkValue(t, linear.Scale(a, k), values, new(big.Int).Mul(x, meant(k)))
	}
}
