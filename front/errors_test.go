package front_test

import (
	"strings"
	"testing"

	"elenchus/api"
)

// What is wrong with the first of the parts counts, parts ahead of their list.
func TestFirstOfErrors(t *testing.T) {
	wrong(t, "(and p (+ x §nosuch))", api.ErrName)
	wrong(t, "(and §nosuch ())", api.ErrName)
	wrong(t, "(and §() nosuch)", api.ErrForm)
	wrong(t, "(and §:k nosuch f)", api.ErrForm)
	wrong(t, "(and §f () nosuch)", api.ErrCount)
	wrong(t, "(and p §(not x) nosuch)", api.ErrSort)
	wrong(t, "(and p §(* x y) nosuch)", api.ErrPower)
	wrong(t, "(and p §(not) (not x))", api.ErrCount)
	wrong(t, "(and p §(not x) (not))", api.ErrSort)
	wrong(t, "(and p x §nosuch)", api.ErrName)
	wrong(t, "(not x §nosuch)", api.ErrName)
	wrong(t, "(not p p §(f))", api.ErrCount)
	wrong(t, "(ite §nosuch)", api.ErrName)
	wrong(t, "(= x p §(g x))", api.ErrCount)
	wrong(t, "(distinct x p §(- q))", api.ErrSort)
	wrong(t, "(f p §nosuch)", api.ErrName)
	wrong(t, "(f x x §())", api.ErrForm)
	wrong(t, "(f §(not x) p)", api.ErrSort)
	wrong(t, "(and p (or q (not (= x (f §(g x))))) ())", api.ErrCount)
	wrong(t, "(and p (or q (not (= x §(f p)))) ())", api.ErrSort)
	wrong(t, "(and p (or q §(not (= x (f x)) q)) ())", api.ErrCount)
	wrong(t, "(and p §(or q (f x)) ())", api.ErrSort)
	wrong(t, "§(and p (f x))", api.ErrSort)
	wrong(t, "p (not q) (+ x 1) §(< p x) (not x) nosuch", api.ErrSort)
	wrong(t, "p (not q) (+ x 1) (< x §nosuch) (not x) nosuch", api.ErrName)
}

func TestFirstOfErrorsInLets(t *testing.T) {
	wrong(t, "(let ((a x) (c §nosuch) (a ())) :k)", api.ErrName)
	wrong(t, "(let ((a x) (c §(not x))) nosuch)", api.ErrSort)
	wrong(t, "(let ((a x) (c y)) §(and a c))", api.ErrSort)
	wrong(t, "(let ((a x) (c y)) (+ a c §d))", api.ErrName)
	wrong(t, "(let ((a x)) §(* a a))", api.ErrPower)
	wrong(t, "(let ((a x)) §(not a))", api.ErrSort)
	wrong(t, "(and (let ((a p)) a) §:k (let ()))", api.ErrForm)
	wrong(t, "(and §(let () p) nosuch)", api.ErrForm)
}

// Places are those of bytes, in texts of several lines, too.
func TestPlaces(t *testing.T) {
	wrong(t, "; (nosuch)\n  p\n\t(and p ; nosuch\n |q|\r\n §|no such|)", api.ErrName)
	wrong(t, "   §(not\n x)", api.ErrSort)
	wrong(t, "|p| (|and|  |p| (|+| §|f| 7))", api.ErrCount)
	wrong(t, "(§nosuch)", api.ErrName)
	wrong(t, "(§nosuch 1 x)", api.ErrName)
	wrong(t, "(and p ( §nosuch x))", api.ErrName)
	wrong(t, "(§|no such| x)", api.ErrName)
	wrong(t, "(§True)", api.ErrName)
	wrong(t, "(§true)", api.ErrName)
	wrong(t, "(§! p)", api.ErrName)
	wrong(t, "(§AND p q)", api.ErrName)
	wrong(t, "(§== x y)", api.ErrName)
	wrong(t, "(§/ x 2)", api.ErrName)
}

// fill makes numbers in a scope's pool until there are so many terms. None of them is below 1000.
func fill(s scope, terms int) {
	s.t.Helper()
	for i := len(s.p.Rows().Terms); i < terms; i++ {
		add(s.t, s.p, num(int64(1000+i)))
	}
}

// fullScope is one of the few symbols and some terms; nothing more can be made.
func fullScope(t *testing.T) scope {
	t.Helper()
	s := fewScope(t)
	for i, text := range []string{"p", "q", "x", "y", "1", "2", "true", "(not p)", "(+ x 1)", "(= x y)", "(f x)", "(<= x y)", "(- y)", "(ite p x y)"} {
		s.term(text, i)
	}
	fill(s, api.MaxTerms)
	return s
}

func TestFullPools(t *testing.T) {
	s := fullScope(t)
	before := show(s.p.Rows())
	for _, marked := range []string{
		"§3", "§false", "§z", "(+ x §3)", "(and §r p)", "(let ((a §z)) nosuch)", "(let ((a x)) (+ a §3))", "(f §3)",
		"§(not q)", "§(and p q)", "§(or p q)", "§(=> p q)", "§(=> q p)", "§(xor p q)", "§(= p q)", "§(= y x)", "§(= x y x)",
		"§(distinct x y)", "§(distinct p q)", "§(ite q x y)", "§(+ x y)", "§(- x)", "§(- x y)", "§(- 1)", "§(* 2 x)", "§(* x 2)",
		"§(* 2 2)", "§(<= y x)", "§(>= x y)", "§(<= x y x)", "§(< x y)", "§(> x y)", "§(> y x)", "§(f y)", "§(g x y)", "§(b x)",
		"(and §(not q) nosuch)", "(and p (= 1 §(+ x y)) ())",
	} {
		s.wrong(marked, api.ErrLong)
	}
	s.has(before)
}

// What is there can be read in a full pool, too.
func TestTermsOfFullPools(t *testing.T) {
	s := fullScope(t)
	before := show(s.p.Rows())
	for text, n := range map[string]int{
		"p": 0, "true": 6, "1": 4, "1014": 14, "5095": 4095, "(not p)": 7, "(+ x 1)": 8, "(= x y)": 9, "(f x)": 10, "(<= x y)": 11,
		"(>= y x)": 11, "(- y)": 12, "(ite p x y)": 13, "(and p)": 0, "(* 1 1)": 4, "(* 2 1)": 5,
		"(let ((z x)) z)": 2, "(let ((a (f x))) (let ((c a)) (* c)))": 10,
	} {
		s.term(text, n)
	}
	s.wrong("(* §(- 1) y)", api.ErrLong)
	s.has(before)
	s.define("a", 4095)
	s.term("(+ a)", 4095)
}

// What else is wrong with an expression counts ahead of a pool that is full.
func TestErrorsAheadOfErrLong(t *testing.T) {
	s := fullScope(t)
	for marked, want := range map[string]api.Errno{
		"§nosuch": api.ErrName, "§f": api.ErrCount, "(§nosuch 1)": api.ErrName, "§:k": api.ErrForm, "§()": api.ErrForm,
		"§(let () z)": api.ErrForm, "(let ((a x) (§a y)) z)": api.ErrName, "§(not x)": api.ErrSort, "§(not)": api.ErrCount,
		"§(not p q)": api.ErrCount, "§(and p x)": api.ErrSort, "§(+ p x)": api.ErrSort, "§(ite x p q)": api.ErrSort,
		"§(ite p q x)": api.ErrSort, "§(= p x)": api.ErrSort, "§(<= x p)": api.ErrSort, "§(f p)": api.ErrSort, "§(f x x)": api.ErrCount,
		"§(g x)": api.ErrCount, "§(* x y)": api.ErrPower, "§(* x p)": api.ErrSort, "§(* x y p)": api.ErrSort, "§(- p)": api.ErrSort, "§(=)": api.ErrCount,
	} {
		s.wrong(marked, want)
	}
}

// fourScope is one of the few symbols, with the terms p, q, x and y.
func fourScope(t *testing.T) scope {
	t.Helper()
	s := fewScope(t)
	for i, name := range []string{"p", "q", "x", "y"} {
		s.term(name, i)
	}
	return s
}

// What there is room for is made, and stays, up to the term for which there is none.
func TestPoolsThatGetFull(t *testing.T) {
	for text, terms := range map[string]string{
		"(+ x 3)": "3, add 2 4", "(- x y x)": "mul -1 3, mul -1 2, add 2 4 5", "(=> p q p)": "not 0, not 1, or 4 5 0",
		"(xor p q p)": "iff 0 1, not 4, iff 5 0, not 6", "(= x y x)": "eq 2 3, eq 3 2, and 4 5", "(distinct p q)": "iff 0 1, not 4",
		"(distinct x y x)": "eq 2 3, not 4, eq 2 2, not 6, eq 3 2, not 8, and 5 7 9", "(< x y)": "1, add 2 4, le 5 3",
		"(> x y x)": "1, add 3 4, le 5 2, add 2 4, le 7 3, and 6 8", "(<= x y x)": "le 2 3, le 3 2, and 4 5", "(>= x y)": "le 3 2",
		"(* 2 x 3)": "2, 3, mul 6 2", "(* 2 3)": "2, 3, 6", "(ite true x y)": "true, ite 4 2 3", "(and p (not q) (not p))": "not 1, not 0, and 0 4 5",
		"(let ((a (not p)) (c (- y))) (ite a c x))": "not 0, mul -1 3, ite 4 5 2",
	} {
		s := fourScope(t)
		needed := strings.Count(terms, ",") + 1
		s.term(text, 3+needed)
		s.has("p, q, x, y, " + terms)
		for room := range needed + 2 {
			checkGetsFull(t, text, s.p.Rows().Terms[4:], room)
		}
	}
}

// checkGetsFull reads a text that makes some terms where there is room for so many.
func checkGetsFull(t *testing.T, text string, terms []api.Term, room int) {
	t.Helper()
	s := fourScope(t)
	fill(s, api.MaxTerms-room)
	n, _, err := s.s.Term(expr(t, text))
	made := s.p.Rows().Terms[api.MaxTerms-room:]
	switch {
	case room >= len(terms) && (err != api.OK || n != api.MaxTerms-room+len(terms)-1):
		t.Fatalf("%q with room for %d terms: %d, error %d", text, room, n, err)
	case room < len(terms) && (err != api.ErrLong || n != 0 || len(made) != room):
		t.Fatalf("%q with room for %d terms: %d, error %d, and it makes %d", text, room, n, err, len(made))
	}
	for i, got := range made {
		for j, part := range got.Args {
			if part >= 4 {
				got.Args[j] -= api.MaxTerms - room - 4
			}
		}
		if got, want := showTerm(few(), got), showTerm(few(), terms[i]); got != want {
			t.Fatalf("%q with room for %d terms makes %s, but it is %s", text, room, got, want)
		}
	}
}
