package smt_test

import (
	"strings"
	"testing"

	"elenchus/api"
)

func TestComparisons(t *testing.T) {
	sat(t, "(< x y)", "(<= x y) (<= y x)", "(= x y) (= y z) (= x z)", "(< 0 x 2)", "(distinct x y z) (<= 0 x 2) (<= 0 y 2) (<= 0 z 2)", "(>= x 7) (<= x 7)", "(or (< x y) (< y x)) (>= x y)",
		"(= (+ x y) 5) (= (- x y) 1)", "(not (= x y)) (not (< x y))", "(= x 0) (or (= x 1) (<= x 0))", "(distinct x 0) (distinct x 1) (<= 0 x 2)", "(< x (- 1000000)) (> (+ x y) 1000000)")
	unsat(t, "(< x y) (< y x)", "(<= x y) (< y x)", "(= x y) (= y z) (distinct x z)", "(< 0 x 1)", "(distinct x y z) (<= 0 x 1) (<= 0 y 1) (<= 0 z 1)", "(>= x 1) (<= x 0)", "(or (< x y) (< y x)) (= x y)",
		"(= (+ x y) 2) (= (- x y) 0) (distinct x 1)", "(distinct x 0) (distinct x 1) (<= 0 x 1)", "(< x y) (< y z) (< z x)", "(<= x 2) (<= 3 x) (= x y)", "(< x 3) (> x 2)")
}

// A comparison of sums whose variables fall out holds, or doesn't, by the numbers alone.
func TestVariablesThatFallOut(t *testing.T) {
	sat(t, "(= (+ x 1) (+ 1 x))", "(<= (+ x y) (+ y x 0))", "(<= (- x x) 0)", "(distinct (+ x 1) x)", "(not (<= (+ x 1) x))", "(= (* 2 (+ x y)) (+ x x y y))", "(= (- (* 3 x) x) (+ x x))", "(= (f x) (+ (f x) (- y y)))",
		"(<= (ite p x y) (ite p x y))", "(= (ite p x x) x)")
	unsat(t, "(= (+ x 1) x)", "(<= (+ x y 1) (+ y x))", "(< (- x x) 0)", "(distinct (+ x 1) (+ 1 x))", "(not (<= x (+ x 1)))", "(= (* 2 (+ x y)) (+ x x y y 1))", "(distinct (- (* 3 x) x) (+ x x))", "(= (f x) (+ (f x) 2))",
		"(< (ite p x y) (ite p x y))", "(distinct (ite p x x) x)")
}

func TestProducts(t *testing.T) {
	long := "1" + strings.Repeat("0", 90)
	sat(t, "(= (* 0 x) 0) (= x 3)", "(<= (* 0 x) (* 0 y)) (< y x)", "(= (* (- 3) x) 12)", "(< (* (- 2) x) 0)", "(= (* (- 1) x) y) (= (+ x y) 0) (= x 3)", "(= (* 2 3 x) (* 6 y)) (= x 1)",
		"(= (* "+long+" x) "+long+")", "(= (* "+long+" x) (* (- "+long+") y)) (= x 3)", "(< (* "+long+" x) 1) (> (* "+long+" x) (- 1))", "(= (* "+long+" x) (* 0 y))", "(= (* 0 "+long+" x) (* 2 y)) (= x 2)", "(= (f (* "+long+" x)) x) (= x 1)")
	unsat(t, "(= (* 0 x) 1)", "(distinct (* 0 x) (* 0 y))", "(= (* (- 3) x) 11)", "(< (* (- 2) x) 0) (< x 1)", "(= (* (- 1) x) y) (= (+ x y) 1)", "(= (* 2 3 x) (* 6 y)) (distinct x y)",
		"(= (* "+long+" x) (+ 1 "+long+"))", "(= (* "+long+" x) (* (- "+long+") y)) (= x 3) (= y 3)", "(< 0 (* "+long+" x) "+long+")", "(= (* "+long+" x) (* 0 y)) (distinct x 0)", "(= (* 0 "+long+" x) (* 2 y)) (= y 2)")
}

// Numbers that words can't hold: models may have to have them.
func TestLongNumbers(t *testing.T) {
	long := "1" + strings.Repeat("0", 300)
	sat(t, "(= x "+long+")", "(= x (- "+long+")) (< x y z)", "(< "+long+" x (+ "+long+" 2))", "(= (f "+long+") x) (= x (+ "+long+" 1))", "(b "+long+") (not (b (+ "+long+" 1)))", "(= (+ x y) "+long+") (= (- x y) "+long+")")
	unsat(t, "(= x "+long+") (< x 18446744073709551616)", "(< "+long+" x (+ "+long+" 1))", "(= x "+long+") (= y "+long+") (distinct (f x) (f y))", "(b "+long+") (= x "+long+") (not (b x))", "(= (+ x y) "+long+") (= (- x y) (+ "+long+" 1))")
	for _, size := range []string{"9223372036854775807", "9223372036854775808", "18446744073709551615", "18446744073709551616", "340282366920938463463374607431768211456"} {
		sat(t, "(= x "+size+") (= y (- "+size+")) (< y 0 x)", "(= (* 2 x) (* 2 "+size+"))")
		unsat(t, "(= x "+size+") (= y (- "+size+")) (distinct (+ x y) 0)", "(< (- "+size+" 1) x "+size+")")
	}
}

// What whole numbers meet, and what fractions alone do.
func TestFractions(t *testing.T) {
	sat(t, "(= (* 2 x) 4)", "(<= 3 (* 2 x) 5)", "(= (+ (* 3 x) (* 5 y)) 1)", "(= (+ (* 2 x) (* 4 y)) 6) (<= 0 x 1)", "(= (* 2 x) (* 3 y)) (= x 3)", "(<= 1 (+ (* 2 x) (* 3 y)) 1) (<= 0 x 2)", "(= (* 3 x) (+ y 1)) (= y 2)", "(= (* 7 x) (+ (* 5 y) 1)) (<= 0 x 4) (<= 0 y 4)")
	unsat(t, "(= (* 2 x) 3)", "(<= 3 (* 2 x) 3)", "(= (+ (* 3 x) (* 6 y)) 1)", "(= (+ (* 2 x) (* 4 y)) 5)", "(= (* 2 x) (* 3 y)) (< 0 x 3)", "(= (* 2 x) (+ (* 2 y) 1))", "(= (* 3 x) (+ y 1)) (= y 1)", "(= (* 7 x) (+ (* 5 y) 1)) (<= 0 x 2) (<= 0 y 3)",
		"(= (* 2 x) (+ (* 2 y) 1)) (<= 0 x) (<= x 3) (<= 0 y) (<= y 3)", "(= (* 2 x) (+ y z)) (= y z) (= (+ y 1) (+ x 0))", "(< (* 3 x) 3) (> (* 3 x) 0)")
}

func TestChoices(t *testing.T) {
	sat(t, "(ite p (= x 5) (= x 6)) (distinct x 5)", "(= (ite p x y) 3) (distinct x 3)", "(= (ite (< x y) x y) 1) (= y 1) (> x 1)", "(= x (ite p 1 2)) (= y (ite q 1 2)) (= (+ x y) 3)", "(= (+ (ite p 1 0) (ite q 1 0) (ite s 1 0)) 2)",
		"(= (ite p (ite q 1 2) 3) 2)", "(= (* 2 (ite p x y)) 6) (= x 1)", "(= (f (ite p 1 2)) 7) (= (f 1) 8)", "(b (ite p x y)) (not (b x)) (not (b 0))", "(= (ite (= (ite p 1 2) x) y z) 3) (= x 2) p (distinct y 3)", "(ite (< x y) (< y z) (< z y)) (> x y)")
	unsat(t, "(ite p (= x 5) (= x 6)) (distinct x 5) (distinct x 6)", "(= (ite p x y) 3) (distinct x 3) (distinct y 3)", "(> (ite (< x y) x y) x)", "(= x (ite p 1 2)) (= y (ite p 2 1)) (= x y)", "(= (+ (ite p 1 0) (ite q 1 0) (ite s 1 0)) 4)",
		"(= (ite p (ite q 1 2) 3) 4)", "(= (* 2 (ite p x y)) 6) (= x 1) (= y 1)", "(= (f (ite p 1 2)) 7) (= (f 1) 8) (= (f 2) 8)", "(b (ite p x y)) (not (b x)) (not (b y))", "(= (ite (= (ite p 1 2) x) y z) 3) (= x 2) p (distinct z 3)", "(ite (< x y) (< y z) (< z y)) (> x y z) (distinct y (+ z 1)) (= x (+ z 2))")
}

// Of a row many bounds, such that most follow from others.
func TestManyBoundsOfARow(t *testing.T) {
	q := read(t, "(or (< x 0) (> x 30)) (or (< x 10) (> x 40)) (or (< x 20) (> x 50)) (<= 0 x 88) (or (< x 60) (> x 85)) (or (< x 45) (> x 86))", "(> x 40) (< x 88) (distinct x 87)")
	if a := q.enough(t); a.Kind != api.Unsat {
		t.Fatalf("x is told to be %v", a.Model)
	}
	q.assume = q.assume[:2]
	if a := q.enough(t); a.Kind != api.Sat || meant(a.Model.Tables[0].Else).Int64() != 87 {
		t.Fatalf("x is 87, but it is told to be %v", a.Model)
	}
}
