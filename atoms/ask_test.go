package atoms_test

import (
	"math"
	"slices"
	"strconv"
	"testing"

	"elenchus/api"
	"elenchus/atoms"
)

func TestExamples(t *testing.T) {
	x := atoms.New()
	asks(t, x, sum(t, "2*0 -6"), 0, true)
	holds(t, x, "1*0", "0: 3")
	asks(t, x, sum(t, "-1*0 4"), 0, false)
	holds(t, x, "1*0", "0: 3")
}

// A first part that is taken more than no times makes its sum's atom itself.
func TestFirstPartsAboveZero(t *testing.T) {
	check(t,
		asking{"1*0", "1*0", "0", true},
		asking{"1*0 4", "1*0", "-4", true},
		asking{"1*0 -4", "1*0", "4", true},
		asking{"1*3 1*5 -7", "1*3 1*5", "7", true},
		asking{"1*3 -1*5 7", "1*3 -1*5", "-7", true},
		asking{"5*2", "1*2", "0", true},
		asking{"5*2 -20", "1*2", "4", true},
		asking{"2*0 4*1 3", "1*0 2*1", "-2", true},
		asking{"2*0 3*1 3", "2*0 3*1", "-3", true},
		asking{"6*0 10*1 15*2 1", "6*0 10*1 15*2", "-1", true},
		asking{"6*0 10*1 14*2 1", "3*0 5*1 7*2", "-1", true},
		asking{"12*0 -18*1 30*9 -11", "2*0 -3*1 5*9", "1", true},
		asking{"4*1 -4*2", "1*1 -1*2", "0", true},
		asking{"1*0 1*1 1*2 1*3 1*4 1*5 -1", "1*0 1*1 1*2 1*3 1*4 1*5", "1", true},
	)
}

// Of one that is taken less than no times the row is the sum below 0, and the atom its opposite.
func TestFirstPartsBelowZero(t *testing.T) {
	check(t,
		asking{"-1*0", "1*0", "-1", false},
		asking{"-1*0 4", "1*0", "3", false},
		asking{"-1*0 -4", "1*0", "-5", false},
		asking{"-1*0 1", "1*0", "0", false},
		asking{"-1*3 -1*5 -7", "1*3 1*5", "-8", false},
		asking{"-1*3 1*5 7", "1*3 -1*5", "6", false},
		asking{"-5*2", "1*2", "-1", false},
		asking{"-5*2 20", "1*2", "3", false},
		asking{"-2*0 4*1 3", "1*0 -2*1", "1", false},
		asking{"-2*0 -4*1 -3", "1*0 2*1", "-2", false},
		asking{"-2*0 3*1 3", "2*0 -3*1", "2", false},
		asking{"-12*0 18*1 -30*9 -11", "2*0 -3*1 5*9", "-2", false},
		asking{"-4*1 4*2", "1*1 -1*2", "-1", false},
		asking{"-1*0 1*1 -1*2 1*3 -1*4 1*5 -1", "1*0 -1*1 1*2 -1*3 1*4 -1*5", "-2", false},
	)
}

// Val is rounded down, on both sides of 0: of a sum of 3 x the number below it, of one of -3 x what isn't above it.
func TestValsAreRoundedDown(t *testing.T) {
	for constant, k := range map[int]int{-7: 2, -6: 2, -5: 1, -4: 1, -3: 1, -2: 0, -1: 0, 0: 0, 1: -1, 2: -1, 3: -1, 4: -2, 5: -2, 6: -2, 7: -3} {
		above, below := strconv.Itoa(k), strconv.Itoa(-k-1)
		rest := " " + strconv.Itoa(constant)
		check(t,
			asking{"3*1" + rest, "1*1", above, true},
			asking{"3*1 9*2" + rest, "1*1 3*2", above, true},
			asking{"3*1 -6*2" + rest, "1*1 -2*2", above, true},
			asking{"-3*1" + rest, "1*1", below, false},
			asking{"-3*1 9*2" + rest, "1*1 -3*2", below, false},
			asking{"-3*1 -6*2" + rest, "1*1 2*2", below, false},
		)
	}
}

// Of a divisor of 2, by what is even and odd.
func TestValsOfEvenAndOdd(t *testing.T) {
	check(t,
		asking{"2*0 -8", "1*0", "4", true}, asking{"2*0 -7", "1*0", "3", true}, asking{"2*0 -1", "1*0", "0", true},
		asking{"2*0 1", "1*0", "-1", true}, asking{"2*0 7", "1*0", "-4", true}, asking{"2*0 8", "1*0", "-4", true},
		asking{"-2*0 -8", "1*0", "-5", false}, asking{"-2*0 -7", "1*0", "-4", false}, asking{"-2*0 -1", "1*0", "-1", false},
		asking{"-2*0 1", "1*0", "0", false}, asking{"-2*0 7", "1*0", "3", false}, asking{"-2*0 8", "1*0", "3", false},
	)
}

// Coefficients, divisors and Const may be great.
func TestGreatNumbers(t *testing.T) {
	check(t,
		asking{"W1.0*0", "1*0", "0", true},
		asking{"-W1.0*0", "1*0", "-1", false},
		asking{"W1.0*0 1", "1*0", "-1", true},
		asking{"-W1.0*0 1", "1*0", "0", false},
		asking{"W1.0*0 -W5.0", "1*0", "5", true},
		asking{"-W1.0*0 -W5.0", "1*0", "-6", false},
		asking{"1*0 -W1.0", "1*0", "18446744073709551616", true},
		asking{"1*0 W1.0.1", "1*0", "-340282366920938463463374607431768211457", true},
		asking{"-1*0 W1.0", "1*0", "18446744073709551615", false},
		asking{"-1*0 -W1.0", "1*0", "-18446744073709551617", false},
		asking{"W1.0*0 W1.1*1 -1", "18446744073709551616*0 18446744073709551617*1", "1", true},
		asking{"-W1.0*0 W1.1*1 -1", "18446744073709551616*0 -18446744073709551617*1", "-2", false},
		asking{"W2.0*0 -W6.0*1 W3.1", "1*0 -3*1", "-2", true},
		asking{"-W2.0*0 -W6.0*1 W3.1", "1*0 3*1", "1", false},
		asking{"2*0 W2.0*1 -W3.1", "1*0 18446744073709551616*1", "27670116110564327424", true},
		asking{"2*0 -W2.0.4*1 W1.0.0", "1*0 -340282366920938463463374607431768211458*1", "-170141183460469231731687303715884105728", true},
		asking{"-2*0 W2.0*1 W1.1", "1*0 -18446744073709551616*1", "9223372036854775808", false},
	)
}

// Terms of a sum need only rise: they may be great, and below 0.
func TestTermsOfGreatNumbers(t *testing.T) {
	most, least := strconv.Itoa(math.MaxInt), strconv.Itoa(math.MinInt)
	check(t,
		asking{"3*" + most + " 1", "1*" + most, "-1", true},
		asking{"-3*" + most + " 1", "1*" + most, "0", false},
		asking{"2*4095 -4*4096 6*" + most, "1*4095 -2*4096 3*" + most, "0", true},
		asking{"2*" + least + " -4*-1 6*" + most, "1*" + least + " -2*-1 3*" + most, "0", true},
	)
}

// Numbers may come in in all forms: what is told is the same.
func TestFormsOfNumbers(t *testing.T) {
	x := atoms.New()
	for _, first := range formsOf(small(-6)) {
		for _, second := range formsOf(told(number(t, "W9.3"))) {
			for _, rest := range formsOf(small(7)) {
				asks(t, x, api.Linear{Parts: []api.Part{{Coef: first, Term: 1}, {Coef: second, Term: 2}}, Const: rest}, 0, false)
			}
			for _, zero := range zeros() {
				asks(t, x, api.Linear{Parts: []api.Part{{Coef: first, Term: 1}, {Coef: second, Term: 2}}, Const: zero}, 1, false)
			}
		}
	}
	holds(t, x, "2*1 -55340232221128654849*2", "0: 2 | 0: -1")
}

// A sum without parts is fixed: it makes nothing.
func TestSumsWithoutParts(t *testing.T) {
	for _, x := range []*atoms.Table{atoms.New(), asked(t, "2*0 -6 | -1*1 4")} {
		rows, list := writtenRows(x.Rows()), writtenAtoms(x.List())
		for _, text := range []string{"-W1.0.0", "-W1.0", "-2", "-1", "0", "1", "2", "W1.0", "W1.0.0"} {
			n := number(t, text)
			for _, form := range formsOf(told(n)) {
				asks(t, x, api.Linear{Const: form}, -1, n.Sign() <= 0)
				asks(t, x, api.Linear{Parts: []api.Part{}, Const: form}, -1, n.Sign() <= 0)
				holds(t, x, rows, list)
			}
		}
	}
}

// What is no sum is refused, and nothing is asked for then.
func TestWhatIsNoSum(t *testing.T) {
	bad := sums(t, "0*0 | 0*0 1 | 0*3 -1 | 1*0 0*1 | 0*0 1*1 | 1*0 0*1 1*2 7 | 1*0 1*0 | 1*0 -1*0 | 2*1 2*1 -6 | 1*0 2*1 2*1 | 1*1 1*0 | 1*0 1*2 1*1 -6 | 3*2 3*-3 | 1*-1 1*-2 | 1*0 1*5 1*0 | 2*7 0*7")
	for _, zero := range zeros() {
		bad = append(bad, api.Linear{Parts: []api.Part{{Coef: zero}}}, api.Linear{Parts: []api.Part{{Coef: small(2)}, {Coef: zero, Term: 1}}, Const: small(-6)})
	}
	for _, x := range []*atoms.Table{atoms.New(), asked(t, "2*0 -6 | -1*1 4 | 1*0")} {
		rows, list := writtenRows(x.Rows()), writtenAtoms(x.List())
		for _, l := range bad {
			refuses(t, x, l, api.ErrForm)
			holds(t, x, rows, list)
		}
	}
	x := asked(t, "2*0 -6")
	for _, l := range bad {
		refuses(t, x, l, api.ErrForm)
	}
	asks(t, x, sum(t, "1*0 1*1"), 1, true)
	asks(t, x, sum(t, "1*0 -3"), 0, true)
	holds(t, x, "1*0 | 1*0 1*1", "0: 3 | 1: 0")
}

// A nil table has nothing, and takes nothing.
func TestNilTable(t *testing.T) {
	var none *atoms.Table
	for _, l := range sums(t, "1*0 | 2*0 -6 | -1*0 4 | 0 | -1 | 1 | W1.0*3 W1.0") {
		refuses(t, none, l, api.ErrArg)
	}
	for _, l := range []api.Linear{{}, sum(t, "0*0"), sum(t, "1*1 1*0")} {
		refuses(t, none, l, api.ErrArg)
	}
	if rows, list := none.Rows(), none.List(); len(rows) != 0 || len(list) != 0 {
		t.Fatalf("a nil table has %v, %v", rows, list)
	}
}

// A table that New didn't make is an empty one.
func TestTableWithoutNew(t *testing.T) {
	x := new(atoms.Table)
	holds(t, x, "", "")
	refuses(t, x, sum(t, "0*0"), api.ErrForm)
	asks(t, x, sum(t, "-2"), -1, true)
	asks(t, x, sum(t, "2*0 -6"), 0, true)
	asks(t, x, sum(t, "1*0 -4"), 1, true)
	holds(t, x, "1*0", "0: 3 | 0: 4")
}

// Numbers may have many words.
func TestNumbersOfManyWords(t *testing.T) {
	great := api.Int{Abs: make(api.Nat, 50000)}
	great.Abs[len(great.Abs)-1] = 1
	below := api.Int{Neg: true, Abs: great.Abs}
	parts := []api.Part{{Coef: small(1), Term: 3}, {Coef: great, Term: 4}}
	x := atoms.New()
	for n, rest := range []api.Int{great, below, great, below} {
		if got, is, err := x.Ask(api.Linear{Parts: parts, Const: rest}); got != n%2 || !is || err != api.OK {
			t.Fatalf("Ask: %d, %v, error %d", got, is, err)
		}
	}
	same := func(a, b api.Int) bool { return a.Neg == b.Neg && slices.Equal(a.Abs, b.Abs) }
	rows, list := x.Rows(), x.List()
	if len(rows) != 1 || len(list) != 2 || !same(rows[0].Parts[1].Coef, great) || !same(list[0].Val, below) || !same(list[1].Val, great) {
		t.Fatal("rows and atoms of numbers of many words aren't as they are told")
	}
}
