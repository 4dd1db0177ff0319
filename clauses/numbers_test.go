package clauses_test

import (
	"math/big"
	"slices"
	"testing"

	"elenchus/api"
)

// wholes has terms of Whole: free ones, numbers, sums, and what is so many times another one.
const wholes = "p | q | x | y | #0 | #3 | #-1 | *2 2 | *-1 2 | *2 3 | add 2 3 | add 2 5 | *2 10 | add 7 9 | f 2 | ite 0 2 5 | ite 1 15 3 | ite 0 4 5 | add 15 11 | *0 2"

// checkComparisons checks an Op of all terms of Whole.
func checkComparisons(t *testing.T, op int) {
	t.Helper()
	var of []int
	for n := 2; n < len(rows(t, wholes).Terms); n++ {
		of = append(of, n)
	}
	each(2, of, func(parts []int) {
		t.Helper()
		checkLit(t, wholes, api.Term{Op: op, Args: parts})
	})
}

func TestEqual(t *testing.T)  { checkComparisons(t, api.OpEq) }
func TestAtMost(t *testing.T) { checkComparisons(t, api.OpLe) }

// Comparisons within other terms, and their opposites.
func TestComparisonsWithinTerms(t *testing.T) {
	r := rows(t, "x | y | #1 | add 0 2 | le 3 1 | le 1 0 | eq 0 1 | not 6 | or 4 7 | iff 8 5 | ite 6 4 9 | add 1 2 | le 11 0 | and 4 12 | or 4 6 | or 14 12 | #2 | add 0 16 | le 17 1")
	for _, l := range [][]int{{4, 5, 6, 7, 8, 9, 10}, {10}, {13}, {15}, {18, 4}, {4, 5}, {5, 4}, {12, 5, 4, 6}} {
		a := ask(t, r, l...)
		a.check()
		a.checkAgain()
	}
}

// A comparison is one bound of one row, whether by OpLe, by what it isn't, or by Most.
func TestComparisonsAreOneAtom(t *testing.T) {
	a := ask(t, rows(t, "x | #3 | le 0 1 | *2 0 | #7 | le 3 4 | #4 | le 6 0 | not 7"), 2, 5, 7, 8)
	d := a.coded()
	if d.Vars != 2 || len(d.Rows) != 1 || writtenSum(d.Rows[0]) != "1*0" || writtenMean(d.Means[1]) != "-1 0:3" || len(d.Clauses) != 1 {
		t.Fatalf("x is at most 3 is %s", written(d))
	}
	if want := []int{2, 2, -2, 2}; !slices.Equal(d.Roots, want) {
		t.Fatalf("the roots are %v, but they are %v", d.Roots, want)
	}
	for text, want := range map[string]int{"1*0 -3": 2, "5*0 -19": 2, "-1*0 4": -2, "W1.0*0 -W3.5": 2, "-2*0 7": -2} {
		if got := a.most(sum(t, text)); got != want {
			t.Fatalf("Most of %q is %d, not %d", text, got, want)
		}
	}
	a.check()
}

// The rows are layer 10's, in the order in which they were asked for first.
func TestRowsAndBounds(t *testing.T) {
	a := ask(t, rows(t, "p | x | y | f 1 | ite 0 1 2"))
	for _, text := range []string{"1*1", "2*1 -4*2 6", "-1*1 2*2 W1.0", "3*3 1", "-1*1 5", "6*2 -9*3 -15", "-W1.0*2 -W2.0*3 W5.1", "7"} {
		a.most(sum(t, text))
	}
	d := a.coded()
	var got []string
	for _, l := range d.Rows {
		got = append(got, writtenSum(l))
	}
	if want := []string{"1*1", "1*1 -2*2", "1*3", "2*2 -3*3", "1*2 2*3"}; !slices.Equal(got, want) {
		t.Fatalf("the rows are %q, but they are %q", got, want)
	}
	got = nil
	for _, m := range d.Means[1:] {
		got = append(got, writtenMean(m))
	}
	if want := []string{"-1 0:0", "-1 1:-3", "-1 1:18446744073709551615", "-1 2:-1", "-1 0:4", "-1 3:5", "-1 4:5"}; !slices.Equal(got, want) {
		t.Fatalf("the variables mean %q, but they mean %q", got, want)
	}
	a.check()
}

// A sum without parts always is, or never is, at most 0.
func TestSumsWithoutParts(t *testing.T) {
	a := ask(t, rows(t, "p | x"), 0)
	before := a.coded()
	for _, text := range []string{"-W1.0", "-2", "-1", "0", "1", "2", "W1.0.0"} {
		for _, form := range formsOf(told(number(t, text))) {
			a.most(api.Linear{Const: form})
			a.most(api.Linear{Parts: []api.Part{}, Const: form})
		}
	}
	checkSame(t, before, a.coded())
	a.check()
}

// A sum, so many times it, and what it isn't: one variable, whatever comes first.
func TestMultiplesAndOpposites(t *testing.T) {
	for _, text := range []string{"1*2", "1*2 5", "-1*2 5", "2*2 -3*3 -4", "-6*2 4*3 1", "1*14 -3", "1*15 1", "-2*15 1*16 -1", "W1.0*2 -1*3 W1.1"} {
		l := sum(t, text)
		l.Const = told(new(big.Int).Mul(meant(l.Const), number(t, "W1.0")))
		for i, p := range l.Parts {
			l.Parts[i].Coef = told(new(big.Int).Mul(meant(p.Coef), number(t, "W1.0")))
		}
		for _, both := range [][]api.Linear{{sum(t, text), l}, {l, sum(t, text)}} {
			a := ask(t, rows(t, wholes))
			n := a.most(both[0])
			before := a.coded()
			if m := a.most(both[1]); m != n {
				t.Fatalf("Most of %q: %d, and of many times it: %d", text, n, m)
			}
			if m := a.most(less(both[0])); m != -n {
				t.Fatalf("Most of %q: %d, and of what it isn't: %d", text, n, m)
			}
			if m := a.most(less(both[1])); m != -n {
				t.Fatalf("Most of %q: %d, and of what many times it isn't: %d", text, n, m)
			}
			checkSame(t, before, a.coded())
			a.check()
		}
	}
}

// less is 1 less a sum.
func less(l api.Linear) api.Linear {
	out := api.Linear{Const: told(new(big.Int).Sub(big.NewInt(1), meant(l.Const)))}
	for _, p := range l.Parts {
		out.Parts = append(out.Parts, api.Part{Coef: told(new(big.Int).Neg(meant(p.Coef))), Term: p.Term})
	}
	return out
}

// Coefficients and bounds may be great, and numbers may come in in all forms.
func TestGreatNumbers(t *testing.T) {
	a := ask(t, rows(t, "x | y | *18446744073709551616 0 | #340282366920938463463374607431768211456 | le 2 3 | add 2 1 | eq 5 3 | ite 4 2 3 | le 7 5"), 4, 6, 8)
	for _, text := range []string{"W1.0*0 -W5.0.1", "-W1.0*0 W1.1*1 -1", "W2.0*0 W6.0*1 W3.1", "1*0 -W1.0.0.0", "W7.0*7 -W7.1"} {
		a.most(sum(t, text))
	}
	a.check()
	a.checkAgain()
	d := a.coded()
	edge := []string{"0", "W1.0", "-W1.0", "W1.1", "W1.0.0", "-1"}
	for _, x := range edge {
		for _, y := range edge {
			a.checkModel(d, api.Model{Tables: []api.Table{{}, {}, {Else: told(number(t, x))}, {Else: told(number(t, y))}, {}, {}}})
		}
	}
	for _, first := range formsOf(small(-6)) {
		for _, rest := range formsOf(small(7)) {
			b := ask(t, rows(t, "x | y"))
			b.most(api.Linear{Parts: []api.Part{{Coef: first, Term: 0}, {Coef: first, Term: 1}}, Const: rest})
			if got := written(b.coded()); got != "2 1 [[1]] | -1 -1:0 | -1 0:-2 & 1*0 1*1" && got != "2 1 [[1]] | -1 -1:0 | -1 0:1 & 1*0 1*1" {
				t.Fatalf("Most of numbers in other forms makes %s", got)
			}
			b.check()
		}
	}
}

// An OpIte of Whole that a sum has is told of by its condition, whatever its parts are.
func TestMostOfItes(t *testing.T) {
	for _, text := range []string{
		"p | #3 | #5 | ite 0 1 2",
		"p | x | y | ite 0 1 2",
		"p | x | #1 | add 1 2 | *2 1 | ite 0 3 4",
		"p | q | x | #1 | ite 1 2 3 | add 4 2 | *-3 4 | ite 0 5 6",
		"p | x | y | le 1 2 | ite 3 1 2",
		"p | x | y | ite 0 1 2 | ite 0 2 1 | le 3 4 | ite 5 3 4",
		"p | x | #0 | eq 1 2 | not 3 | and 0 4 | ite 5 1 2 | add 6 1 | ite 3 7 6",
		"true | x | y | ite 0 1 2", "false | x | y | ite 0 1 2", "true | not 0 | x | y | ite 1 2 3",
		"p | x | ite 0 1 1", "true | x | ite 0 1 1", "x | #0 | #1 | le 1 2 | le 2 1 | ite 3 0 1 | ite 4 5 0", "x | *2 0 | *2 1 | le 1 1 | ite 3 1 2",
		"p | x | #1 | ite 0 1 2 | ite 0 2 3 | ite 0 4 1 | ite 0 5 2", "x | y | g 0 1 | f 0 | ite 2 3 0",
	} {
		r := rows(t, text)
		last := len(r.Terms) - 1
		for _, l := range sums(t, "1*0 | -1*0 | 1*0 -3 | -1*0 3 | 2*0 -7 | -2*0 5") {
			l.Parts[0].Term = last
			a := ask(t, r)
			a.most(l)
			a.check()
			a.checkAgain()
			a.most(less(l))
			a.check()
		}
	}
}
