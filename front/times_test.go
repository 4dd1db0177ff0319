package front_test

import (
	"strconv"
	"strings"
	"testing"

	"elenchus/api"
)

func TestTimes(t *testing.T) {
	makes(t, "(* x)", "x")
	makes(t, "(* 7)", "7")
	makes(t, "(* p)", "p")
	makes(t, "(* (+ x y))", "x, y, add 0 1")
	makes(t, "(* 2 x)", "2, x, mul 2 1")
	makes(t, "(* x 2)", "x, 2, mul 2 0")
	makes(t, "(* 0 x)", "0, x, mul 0 1")
	makes(t, "(* 1 x)", "1, x, mul 1 1")
	makes(t, "(* 2 3)", "2, 3, 6")
	makes(t, "(* 2 3 x)", "2, 3, x, mul 6 2")
	makes(t, "(* 2 x 3)", "2, x, 3, mul 6 1")
	makes(t, "(* x 2 3)", "x, 2, 3, mul 6 0")
	makes(t, "(* 2 3 4 5)", "2, 3, 4, 5, 120")
	makes(t, "(* 5 x 5 2)", "5, x, 2, mul 50 1")
	makes(t, "(* 3 (f x))", "3, x, f 1, mul 3 2")
	makes(t, "(* 2 (ite p x y))", "2, p, x, y, ite 1 2 3, mul 2 4")
	makes(t, "(* 2 (* 3 x))", "2, 3, x, mul 3 2, mul 2 3")
	makes(t, "(* 2 (+ x 1) 2)", "2, x, 1, add 1 2, mul 4 3")
	makes(t, "(* 18446744073709551616 18446744073709551616)", "18446744073709551616, 340282366920938463463374607431768211456")
}

// All parts fixed: a number, one that is there already among others.
func TestTimesOfFixed(t *testing.T) {
	checkRead(t, few(), "(* 1 1)", "1", 0)
	checkRead(t, few(), "(* 2 1)", "2, 1", 0)
	checkRead(t, few(), "6 (* 2 3)", "6, 2, 3", 0, 0)
	checkRead(t, few(), "(* 0 5)", "0, 5", 0)
	checkRead(t, few(), "(* (- 1) (- 1))", "1, mul -1 0", 0)
	checkRead(t, few(), "(* 1 (- 1))", "1, mul -1 0, -1", 2)
	makes(t, "(* 2 (- 3))", "2, 3, mul -1 1, -6")
	makes(t, "(* (- 2) (- 3))", "2, mul -1 0, 3, mul -1 2, 6")
	makes(t, "(* (- 2) (- 3) (- 5))", "2, mul -1 0, 3, mul -1 2, 5, mul -1 4, -30")
	makes(t, "(* (+ 2 3) (- 7 4))", "2, 3, add 0 1, 7, 4, mul -1 4, add 3 5, 15")
	makes(t, "(* (- (- (- 2))) 4)", "2, mul -1 0, mul -1 1, mul -1 2, 4, -8")
}

// Fixed are numbers, and what OpMul and OpAdd make of what is fixed.
func TestFixed(t *testing.T) {
	makes(t, "(* (- 3) x)", "3, mul -1 0, x, mul -3 2")
	makes(t, "(* x (- 3))", "x, 3, mul -1 1, mul -3 0")
	makes(t, "(* (+ 1 2) x)", "1, 2, add 0 1, x, mul 3 3")
	makes(t, "(* x (+ 1 2 4 1))", "x, 1, 2, 4, add 1 2 3 1, mul 8 0")
	makes(t, "(* (- 5 7 4) x)", "5, 7, 4, mul -1 1, mul -1 2, add 0 3 4, x, mul -6 6")
	makes(t, "(* (- (+ 2 (- 5))) x)", "2, 5, mul -1 1, add 0 2, mul -1 3, x, mul 3 5")
	makes(t, "(* (- 4 4) x)", "4, mul -1 0, add 0 1, x, mul 0 3")
	makes(t, "(* 2 (- 3) x (+ 1 4) (- (- 1)))", "2, 3, mul -1 1, x, 1, 4, add 4 5, mul -1 4, mul -1 7, mul -30 3")
	makes(t, "(let ((a (+ 1 2)) (c (- 4))) (* a x c))", "1, 2, add 0 1, 4, mul -1 3, x, mul -12 5")
	makes(t, "(* (+ 18446744073709551615 1) (- 18446744073709551616) x)", "18446744073709551615, 1, add 0 1, 18446744073709551616, mul -1 3, x, mul -340282366920938463463374607431768211456 5")
	s := fewScope(t)
	s.term("(- 6)", 1)
	s.define("d", 1)
	s.term("(* d x d)", 3)
	s.has("6, mul -1 0, x, mul 36 2")
}

// Fixed isn't what only comes to one number whatever the model is.
func TestNotFixed(t *testing.T) {
	for _, part := range []string{"x", "(f 1)", "(f x)", "(x)", "(ite true 1 2)", "(ite p 1 1)", "(- x x)", "(+ x 1)", "(+ 1 x)", "(+ 1 2 (f 3))", "(* 0 x)", "(- (+ 1 y))", "(- 0 (- x))", "(+ (ite p 1 2) 3)", "(- (ite true 1 1))"} {
		for _, other := range []string{"y", "x", part, "(f 2)", "(ite false 3 4)", "(* 0 y)", "(+ 5 z)"} {
			for _, text := range []string{"(* A B)", "(* A 2 B)", "(* 2 A B)", "(* A B 2)", "(* 0 A B)", "(* A B A)", "(* (- 1) A (+ 1 2) B)"} {
				text = strings.ReplaceAll(strings.ReplaceAll(text, "A", part), "B", other)
				wrong(t, "§"+text, api.ErrPower)
				wrong(t, "p (< x §"+text+" nosuch)", api.ErrPower)
			}
		}
		r := first(t, "(* 3 "+part+" 2)")
		if last := r.Terms[len(r.Terms)-1]; last.Op != api.OpMul || meant(last.Num).Int64() != 6 {
			t.Errorf("(* 3 %s 2) makes %s", part, show(r))
		}
	}
}

// A part that isn't of Whole counts ahead of parts that aren't fixed.
func TestTimesOfBool(t *testing.T) {
	for _, text := range []string{
		"§(* p x)", "§(* x p)", "§(* 2 p)", "§(* p 2)", "§(* p q)", "§(* x y p)", "§(* x p y)", "§(* p x y)", "§(* x x x true)",
		"§(* 2 3 p)", "§(* 2 p x)", "§(* (f x) (f y) (b x))", "§(* x y (= x y))", "§(* (ite p q r) x y)", "§(* p p p)", "§(* true 1)",
	} {
		wrong(t, text, api.ErrSort)
		wrong(t, "(not (< x "+text+" nosuch))", api.ErrSort)
	}
	wrong(t, "(* x y (* p §nosuch))", api.ErrName)
	wrong(t, "(* x y §(* p 2) (* x y))", api.ErrSort)
	wrong(t, "(* x y §(* z y) (* p 2))", api.ErrPower)
	wrong(t, "(* x y p §(* z y))", api.ErrPower)
	wrong(t, "(* p §(not x))", api.ErrSort)
}

// Nothing is made of a list that is refused, but its parts.
func TestTimesThatAreRefused(t *testing.T) {
	s := fewScope(t)
	s.wrong("§(* 2 x 3 y)", api.ErrPower)
	s.has("2, x, 3, y")
	s.wrong("§(* 2 x 3 p)", api.ErrSort)
	s.has("2, x, 3, y, p")
}

// What is fixed may be shared over and over.
func TestFixedOfSharedTerms(t *testing.T) {
	text := "(* n x)"
	for range 20 {
		text = "(let ((n (+ n n))) " + text + ")"
	}
	text = "(let ((n 3)) " + text + ")"
	r := first(t, text)
	if last := r.Terms[len(r.Terms)-1]; last.Op != api.OpMul || meant(last.Num).Int64() != 3<<20 {
		t.Fatalf("%s makes %s", text, show(r))
	}
}

// What is fixed is so in all calls of one scope.
func TestFixedFromCallToCall(t *testing.T) {
	s := fewScope(t)
	s.term("x", 0)
	s.term("(- 1)", 2)
	want := "x, 1, mul -1 1"
	for i := 2; i < 40; i++ {
		n := strconv.Itoa(i)
		s.term("(* "+n+" x (- 1))", 2*i)
		want += ", " + n + ", mul -" + n + " 0"
	}
	s.has(want)
}
