package ratio_test

import (
	"math/big"
	"testing"

	"elenchus/api"
	"elenchus/ratio"
	"elenchus/whole"
)

// floorOf is the greatest whole number that isn't above.
func floorOf(v *big.Rat) *big.Int {
	// The divisor is above 0, and there big's Euclidean quotient is the floor.
	return new(big.Int).Div(v.Num(), v.Denom())
}

func ceilOf(v *big.Rat) *big.Int {
	below := floorOf(new(big.Rat).Neg(v))
	return below.Neg(below)
}

// checkOne holds what is answered of one fraction against what it should be.
func checkOne(t *testing.T, a api.Rat) {
	t.Helper()
	v := meant(a)
	if got := ratio.Sign(a); got != v.Sign() {
		t.Fatalf("Sign of %v (%v): %d", v, a, got)
	}
	if got := ratio.Is(a); got != v.IsInt() {
		t.Fatalf("Is of %v (%v): %v", v, a, got)
	}
	toldInt(t, "Floor of "+v.String(), ratio.Floor(a), floorOf(v))
	toldInt(t, "Ceil of "+v.String(), ratio.Ceil(a), ceilOf(v))
	told(t, "Of the number "+v.String(), ratio.Of(a.Num), new(big.Rat).SetInt(bigInt(a.Num)))
}

// checkTwo holds what is answered of two fractions against what it should be.
func checkTwo(t *testing.T, a, b api.Rat) {
	t.Helper()
	x, y := meant(a), meant(b)
	both := x.String() + " and " + y.String()
	if got := ratio.Cmp(a, b); got != x.Cmp(y) {
		t.Fatalf("Cmp of %s: %d", both, got)
	}
	told(t, "Add of "+both, ratio.Add(a, b), new(big.Rat).Add(x, y))
	told(t, "Sub of "+both, ratio.Sub(a, b), new(big.Rat).Sub(x, y))
	told(t, "Mul of "+both, ratio.Mul(a, b), new(big.Rat).Mul(x, y))
	got, e := ratio.Div(a, b)
	if y.Sign() == 0 {
		refused(t, "Div of "+both, got, e)
	} else if e != api.OK {
		t.Fatalf("Div of %s: error %v", both, e)
	} else {
		told(t, "Div of "+both, got, new(big.Rat).Quo(x, y))
	}
	checkNew(t, a.Num, b.Num)
}

func checkNew(t *testing.T, a, b api.Int) {
	t.Helper()
	x, y := bigInt(a), bigInt(b)
	got, e := ratio.New(a, b)
	what := "New of " + x.String() + " by " + y.String()
	if y.Sign() == 0 {
		refused(t, what, got, e)
	} else if e != api.OK {
		t.Fatalf("%s: error %v", what, e)
	} else {
		told(t, what, got, new(big.Rat).SetFrac(x, y))
	}
}

func refused(t *testing.T, what string, got api.Rat, e api.Errno) {
	t.Helper()
	if e != api.ErrZero || !isZeroValue(got) {
		t.Fatalf("%s: %v, %v", what, got, e)
	}
}

func TestEdges(t *testing.T) {
	all := edges()
	for _, a := range all {
		checkOne(t, a)
		for _, b := range all {
			checkTwo(t, a, b)
		}
	}
}

func TestSmallNumbers(t *testing.T) {
	var all []api.Rat
	for num := -9; num <= 9; num++ {
		for den := 0; den <= 6; den++ {
			all = append(all, api.Rat{Num: whole.Of(num), Den: whole.Of(den).Abs})
			checkNew(t, whole.Of(num), whole.Of(den))
			checkNew(t, whole.Of(num), whole.Of(-den))
		}
	}
	for _, a := range all {
		checkOne(t, a)
		for _, b := range all {
			checkTwo(t, a, b)
		}
	}
}

func TestAnyNumbers(t *testing.T) {
	r := chance()
	for range 8000 {
		a, b := anyRat(r, 4), anyRat(r, 4)
		checkOne(t, a)
		checkTwo(t, a, b)
	}
}

func TestManyWords(t *testing.T) {
	r := chance()
	for range 20 {
		a, b := anyRat(r, 120), anyRat(r, 120)
		checkOne(t, a)
		checkTwo(t, a, b)
	}
}

func TestCommonDivisorOfManyWords(t *testing.T) {
	r := chance()
	for range 400 {
		a, b, common := anyInt(r, 4), anyInt(r, 4), anyInt(r, 4)
		checkNew(t, whole.Mul(a, common), whole.Mul(b, common))
		checkOne(t, api.Rat{Num: whole.Mul(a, common), Den: whole.Mul(b, common).Abs})
	}
}

func TestAsTold(t *testing.T) {
	a, e := ratio.New(whole.Of(4), whole.Of(-6))
	if e != api.OK {
		t.Fatal(e)
	}
	told(t, "New of 4 by -6", a, big.NewRat(-2, 3))
	toldInt(t, "Floor", ratio.Floor(a), big.NewInt(-1))
	toldInt(t, "Ceil", ratio.Ceil(a), big.NewInt(0))
}

func TestZeroIsByOne(t *testing.T) {
	zero := new(big.Rat)
	told(t, "Of 0", ratio.Of(api.Int{Neg: true, Abs: api.Nat{0}}), zero)
	a, _ := ratio.New(api.Int{Neg: true}, whole.Of(-6))
	told(t, "New of 0 by -6", a, zero)
	third := small(1, 3)
	told(t, "1/3 - 1/3", ratio.Sub(third, third), zero)
	told(t, "1/3 * 0", ratio.Mul(third, api.Rat{}), zero)
	q, _ := ratio.Div(api.Rat{Num: api.Int{Neg: true}}, third)
	told(t, "0 / (1/3)", q, zero)
}

func TestDivisionByZero(t *testing.T) {
	zeros := otherForms(small(0, 1))
	for _, zero := range zeros {
		for _, a := range append(zeros, small(1, 1), small(-7, 3), ratOf(new(big.Rat).SetInt(new(big.Int).Lsh(big.NewInt(1), 200)))) {
			q, e := ratio.Div(a, zero)
			refused(t, "Div by 0", q, e)
			q, e = ratio.New(a.Num, zero.Num)
			refused(t, "New by 0", q, e)
		}
	}
}

func TestRounding(t *testing.T) {
	for _, c := range []struct{ num, den, floor, ceil int64 }{
		{7, 2, 3, 4}, {-7, 2, -4, -3}, {1, 2, 0, 1}, {-1, 2, -1, 0}, {6, 2, 3, 3}, {-6, 2, -3, -3},
		{0, 5, 0, 0}, {99, 100, 0, 1}, {-99, 100, -1, 0}, {-100, 100, -1, -1}, {-101, 100, -2, -1},
	} {
		a := api.Rat{Num: intOf(big.NewInt(c.num)), Den: natOf(big.NewInt(c.den))}
		toldInt(t, "Floor", ratio.Floor(a), big.NewInt(c.floor))
		toldInt(t, "Ceil", ratio.Ceil(a), big.NewInt(c.ceil))
	}
}

// Neighbours, and numbers of one sign whose sizes are ordered the other way round, are told apart.
func TestOrder(t *testing.T) {
	rising := []api.Rat{
		small(-3, 1), small(-5, 2), small(-2, 1), small(-2, 3), small(-1, 2), small(-1, 3),
		small(0, 1), small(1, 1000), small(1, 3), small(1, 2), small(2, 3), small(1, 1), small(3, 2), small(1000, 1),
	}
	for i, a := range rising {
		for j, b := range rising {
			want := 0
			if i < j {
				want = -1
			} else if i > j {
				want = 1
			}
			for _, x := range otherForms(a) {
				for _, y := range otherForms(b) {
					if got := ratio.Cmp(x, y); got != want {
						t.Fatalf("Cmp of %v and %v: %d", meant(x), meant(y), got)
					}
				}
			}
		}
	}
}
