package smt_test

import (
	"strconv"
	"strings"
	"testing"

	"elenchus/api"
)

// A symbol of numbers tells the same of the same numbers, whatever sums they are.
func TestFunctions(t *testing.T) {
	sat(t, "(= (f x) 3)", "(= x y) (= (f x) (f y))", "(< x y) (= (f x) 3) (distinct (f x) (f y))", "(distinct (f x) (f y))", "(= (f x) 1) (= (f y) 2)", "(= y (+ x 1)) (= (f x) 5) (= (f y) 6)", "(= (f x) (+ (f y) 1))",
		"(= (f 1) 2) (= (f 2) 1) (= x (f (f 1)))", "(= (g x y) 1) (= (g y x) 2)", "(= (g x y) 1) (= (g x z) 2) (<= y z)", "(= (h x y z 1) 1) (= (h x y z 2) 2) (= (h x y 1 z) 3) (distinct z 1 2)", "(= (f x) x) (= (f y) y) (distinct x y)", "(= (f (g x y)) (g (f x) y)) (= x y)")
	unsat(t, "(= x y) (distinct (f x) (f y))", "(= (f x) 1) (= (f y) 2) (= x y)", "(= y (+ x 1)) (= (f (+ x 1)) 5) (= (f y) 6)", "(= (f (+ x x)) 1) (= (f (* 2 x)) 2)", "(= (f (+ x y)) 1) (= (f (+ y x)) 2)", "(= (f 3) 1) (= x 2) (= (f (+ x 1)) 2)",
		"(= (f 1) 2) (= (f 2) 1) (distinct 1 (f (f 1)))", "(= (g x y) 1) (= (g y x) 2) (= x y)", "(= (g x y) 1) (= (g x z) 2) (= y z)", "(= (h x y z 1) 1) (= (h y x 1 z) 2) (= x y) (= z 1)", "(= (f (f x)) x) (= (f x) y) (distinct (f y) x)", "(<= x y) (<= y x) (< (f x) (f y))",
		"(= (f (- x 2)) 1) (= (f (+ y 1)) 2) (= (+ y 3) x)", "(distinct (f (f (f x))) (f (f (f y)))) (= x y)", "(= (f x) 0) (= (f 0) 1) (= (f (f x)) 2)")
}

func TestTruthsOfNumbers(t *testing.T) {
	sat(t, "(b x)", "(not (b x))", "(b x) (not (b y))", "(b x) (not (b (+ x 1)))", "(c x y) (not (c y x))", "(= (b x) (b y)) (b x) (distinct x y)", "(xor (b 1) (b 2) (b 3)) (b 1) (b 2)", "(d 1 2 3 4) (not (d 4 3 2 1))", "(ite (b x) (not (b y)) (b y)) (< x y)", "(b (f x)) (not (b (f y)))", "(= (ite (b x) 1 2) 2) (b y)")
	unsat(t, "(b x) (not (b x))", "(b x) (not (b y)) (= x y)", "(b (+ x 1)) (not (b y)) (= y (+ 1 x))", "(c x y) (not (c y x)) (= x y)", "(distinct (b x) (b y)) (<= x y) (<= y x)", "(b 1) (b 2) (not (b x)) (<= 1 x 2)", "(d 1 2 3 x) (not (d 1 y 3 4)) (= x (+ y y)) (= y 2)", "(ite (b x) (not (b y)) (b y)) (= x y)", "(b (f x)) (not (b (f y))) (= x y)", "(= (ite (b x) 1 2) 2) (b y) (= x y)")
}

// Symbols of one name's sort and number each keep to themselves.
func TestSymbolsAreApart(t *testing.T) {
	sat(t, "(= (f x) 1) (= (g x x) 2) (b x) (not (c x x)) (= x 3) p", "(= (h 1 1 1 1) 4) (not (d 1 1 1 1)) (= (f 1) 5) (b 1)", "(= x 1) (= y 2) (= z 3) p (not q) s")
	// Those that stand in no condition have tables, too.
	for _, text := range []string{"", "p", "(= x 3)", "(= (f x) 3)", "(b x)", "(= (h x y z 0) 1)", "(d 1 x 2 y)"} {
		a := read(t, text, "").enough(t)
		if a.Kind != api.Sat || len(a.Model.Tables) != len(symbols()) {
			t.Fatalf("%q: %v", text, a)
		}
	}
}

// Terms of which a condition doesn't hang don't count, whatever they are.
func TestTermsThatAreNotAsked(t *testing.T) {
	q := read(t, "false (< x x) (= (f x) 1) (= (f y) 2) (= x y) (= (* 2 x) 1) p", "")
	p := q.asserts[6]
	for _, one := range [][]int{{p}, q.asserts[2:4], {q.asserts[4], q.asserts[2]}, {q.asserts[3], p}} {
		if a := q.of(one, nil).enough(t); a.Kind != api.Sat {
			t.Fatalf("%v of %s: %v", one, q, a)
		}
	}
}

// nested is a symbol of one number, so many times within itself.
func nested(times int, of string) string {
	return strings.Repeat("(f ", times) + of + strings.Repeat(")", times)
}

// P7: with such fuel these are answered.
func TestEnoughFuel(t *testing.T) {
	type row struct {
		text string
		fuel int
		want int
	}
	rows := []row{{"p (not p)", 1000, api.Unsat}, {"(<= (+ x 1) x)", 20000, api.Unsat}, {"(< x y) (< y z) (= (f x) 3)", 20000, api.Sat}}
	for times := range 5 {
		rows = append(rows, row{"(= x y) (> " + nested(times, "x") + " " + nested(times, "y") + ")", 20000, api.Unsat})
	}
	for _, r := range rows {
		for _, q := range read(t, r.text, "").splits() {
			if a := q.ask(t, r.fuel); a.Kind != r.want {
				t.Errorf("%q, fuel %d: %d, %d was used", r.text, r.fuel, a.Kind, a.used)
			}
		}
	}
}

// Symbols within one another, and many terms of one symbol.
func TestManyTermsOfASymbol(t *testing.T) {
	sat(t, "(= "+nested(20, "x")+" (+ x 20))")
	var chain, values strings.Builder
	for n := range 40 {
		chain.WriteString("(= (f " + strconv.Itoa(n) + ") " + strconv.Itoa(n+1) + ") ")
		values.WriteString("(= (g x " + strconv.Itoa(n) + ") (f (+ y " + strconv.Itoa(n) + "))) ")
	}
	for _, c := range []struct {
		text string
		want int
	}{
		{chain.String() + "(= " + nested(40, "0") + " 40)", api.Sat}, {chain.String() + "(distinct " + nested(40, "0") + " 40)", api.Unsat}, {chain.String() + "(= x 0) (distinct " + nested(10, "x") + " 10)", api.Unsat},
		{values.String() + "(= x y)", api.Sat}, {values.String() + chain.String() + "(= x 3) (= y 0)", api.Sat}, {values.String() + chain.String() + "(= y 7) (distinct (g x 5) 13)", api.Unsat},
	} {
		if a := read(t, c.text, "").enough(t); a.Kind != c.want {
			t.Errorf("%q: %d, not %d", c.text, a.Kind, c.want)
		}
	}
}
