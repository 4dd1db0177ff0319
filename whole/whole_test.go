package whole_test

import (
	"math"
	"math/big"
	"testing"

	"elenchus/api"
	"elenchus/whole"
)

func TestOf(t *testing.T) {
	for _, v := range []int{0, 1, -1, 7, -7, math.MaxInt32, math.MinInt32, math.MaxInt, math.MinInt, math.MinInt + 1} {
		toldAs(t, "Of", whole.Of(v), big.NewInt(int64(v)))
	}
}

func TestNorm(t *testing.T) {
	for _, a := range edges() {
		toldAs(t, "Norm", whole.Norm(a), meant(a))
	}
}

func TestSign(t *testing.T) {
	for _, a := range edges() {
		if got, want := whole.Sign(a), meant(a).Sign(); got != want {
			t.Errorf("Sign of %v: %d, but it is %d", a, got, want)
		}
	}
}

func TestNeg(t *testing.T) {
	for _, a := range edges() {
		toldAs(t, "Neg", whole.Neg(a), new(big.Int).Neg(meant(a)))
	}
}

// checkPair holds what is answered of two numbers against what it should be.
func checkPair(t *testing.T, a, b api.Int) {
	t.Helper()
	x, y := meant(a), meant(b)
	if got, want := whole.Cmp(a, b), x.Cmp(y); got != want {
		t.Fatalf("Cmp of %v and %v: %d, but it is %d", x, y, got, want)
	}
	toldAs(t, "Add", whole.Add(a, b), new(big.Int).Add(x, y))
	toldAs(t, "Sub", whole.Sub(a, b), new(big.Int).Sub(x, y))
	toldAs(t, "Mul", whole.Mul(a, b), new(big.Int).Mul(x, y))
	toldAs(t, "Gcd", whole.Gcd(a, b), new(big.Int).GCD(nil, nil, new(big.Int).Abs(x), new(big.Int).Abs(y)))
	checkDiv(t, a, b)
}

func checkDiv(t *testing.T, a, b api.Int) {
	t.Helper()
	x, y := meant(a), meant(b)
	q, r, e := whole.Div(a, b)
	if y.Sign() == 0 {
		if e != api.ErrZero || q.Neg || r.Neg || len(q.Abs) > 0 || len(r.Abs) > 0 {
			t.Fatalf("Div of %v by 0: %v, %v, %v", x, q, r, e)
		}
		return
	}
	if e != api.OK {
		t.Fatalf("Div of %v by %v: error %v", x, y, e)
	}
	quotient, rest := new(big.Int).DivMod(x, y, new(big.Int))
	toldAs(t, "Div's quotient", q, quotient)
	toldAs(t, "Div's rest", r, rest)
}

func TestPairsOfEdges(t *testing.T) {
	all := edges()
	for _, a := range all {
		for _, b := range all {
			checkPair(t, a, b)
		}
	}
}

func TestPairsOfSmallNumbers(t *testing.T) {
	for v := -24; v <= 24; v++ {
		for w := -24; w <= 24; w++ {
			a, b := whole.Of(v), whole.Of(w)
			checkPair(t, a, b)
			checkPair(t, longer(a, 2), longer(b, 1))
		}
	}
}

func TestPairsOfAnyNumbers(t *testing.T) {
	r := chance()
	for range 20000 {
		checkPair(t, anyNumber(r, 6), anyNumber(r, 6))
	}
}

func TestPairsOfManyWords(t *testing.T) {
	r := chance()
	for range 20 {
		checkPair(t, anyNumber(r, 300), anyNumber(r, 300))
		checkPair(t, anyNumber(r, 300), anyNumber(r, 2))
	}
}

func TestCmpOfTheSameSize(t *testing.T) {
	// The highest words that differ tell, not the lowest.
	a := api.Int{Abs: api.Nat{9, 1, 5, 7}}
	b := api.Int{Abs: api.Nat{1, 2, 5, 7}}
	below := func(a api.Int) api.Int { return whole.Neg(a) }
	if whole.Cmp(a, b) != -1 || whole.Cmp(b, a) != 1 || whole.Cmp(a, longer(a, 2)) != 0 {
		t.Error("of numbers above 0")
	}
	if whole.Cmp(below(a), below(b)) != 1 || whole.Cmp(below(b), below(a)) != -1 || whole.Cmp(below(a), a) != -1 {
		t.Error("of numbers below 0")
	}
}

func TestDivAsTold(t *testing.T) {
	for _, c := range []struct{ a, b, q, r string }{
		{"-7", "2", "-4", "1"},
		{"7", "-2", "-3", "1"},
		{"7", "2", "3", "1"},
		{"-7", "-2", "4", "1"},
		{"-8", "2", "-4", "0"},
		{"-8", "-2", "4", "0"},
		{"0", "-5", "0", "0"},
		{"-1", "340282366920938463463374607431768211456", "-1", "340282366920938463463374607431768211455"},
		{"1", "-340282366920938463463374607431768211456", "0", "1"},
	} {
		q, r, e := whole.Div(number(t, c.a), number(t, c.b))
		if e != api.OK || whole.Print(q) != c.q || whole.Print(r) != c.r {
			t.Errorf("Div of %s by %s: %s, %s, %v", c.a, c.b, whole.Print(q), whole.Print(r), e)
		}
	}
}

// The highest parts of these tell a quotient that is too great, once or twice, or
// so great that a part can't hold it.
func TestDivWhereAGuessIsWrong(t *testing.T) {
	const top, full = 1 << 31, 1<<32 - 1
	for _, c := range []struct{ a, b []uint32 }{
		{[]uint32{0, full - 1, top}, []uint32{full, top}},
		{[]uint32{3, 0, top}, []uint32{1, 0, top >> 2}},
		{[]uint32{0, 0, top, top - 1}, []uint32{1, 0, top}},
		{[]uint32{0, full - 1, 0, top}, []uint32{full, 0, top}},
		{[]uint32{0, 0, 0, 0, 0, top, full, top - 1}, []uint32{1, 0, 0, 0, 0, top}},
		{[]uint32{0, 0, full - 1, full, 0, 0, 0, top}, []uint32{full, full, 0, 0, 0, top}},
		{[]uint32{full, full, full, full, full, full}, []uint32{full, full, full}},
		{[]uint32{0, 0, 0, full, full, full}, []uint32{full, full, full}},
	} {
		a, b := ofHalves(c.a...), ofHalves(c.b...)
		checkDiv(t, a, b)
		checkDiv(t, whole.Neg(a), b)
	}
}

func TestDivAboutAProduct(t *testing.T) {
	r := chance()
	for range 4000 {
		b, q := anyNumber(r, 5), anyNumber(r, 5)
		for more := -1; more <= 1; more++ {
			checkDiv(t, whole.Add(whole.Mul(b, q), whole.Of(more)), b)
		}
	}
}

func TestGcdOfWhatHasACommonPart(t *testing.T) {
	r := chance()
	for range 400 {
		c := anyNumber(r, 4)
		checkPair(t, whole.Mul(anyNumber(r, 4), c), whole.Mul(anyNumber(r, 4), c))
	}
}

func TestGcdOfNeighbours(t *testing.T) {
	// Of each number and the one ahead nothing but single steps leads down to 1.
	a, b := whole.Of(0), whole.Of(1)
	for range 2000 {
		a, b = b, whole.Add(a, b)
	}
	if got := whole.Print(whole.Gcd(a, b)); got != "1" {
		t.Error(got)
	}
	if got := whole.Gcd(whole.Mul(a, a), whole.Neg(whole.Mul(a, b))); whole.Cmp(got, a) != 0 {
		t.Error(whole.Print(got))
	}
}
