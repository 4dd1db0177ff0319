package front_test

import (
	"testing"

	"elenchus/api"
	"elenchus/front"
)

// A nil scope, or one of a nil pool, has nothing to make terms in.
func TestNoPool(t *testing.T) {
	var none *front.Scope
	for _, s := range []*front.Scope{none, front.New(nil), {}} {
		for _, n := range []int{-1, 0, 1} {
			for _, name := range []string{"a", "true", ""} {
				if err := s.Define(name, n); err != api.ErrArg {
					t.Errorf("Define of %q as %d: error %d", name, n, err)
				}
			}
		}
		for _, text := range []string{"x", "true", "7", "(and true)", "()", ":key", "(let ((a 1)) a)"} {
			e := expr(t, " "+text)
			if n, at, err := s.Term(e); n != 0 || at != 0 || err != api.ErrArg {
				t.Errorf("Term of %q: %d, error %d at %d", text, n, err, at)
			}
		}
		if n, at, err := s.Term(api.Expr{}); n != 0 || at != 0 || err != api.ErrArg {
			t.Errorf("Term of nothing: %d, error %d at %d", n, err, at)
		}
	}
}

func TestEmptyPool(t *testing.T) {
	s := newScope(t)
	s.notDefined("a", 0, api.ErrArg)
	s.wrong("§a", api.ErrName)
	s.term("(not true)", 1)
	s.define("a", 1)
	s.term("a", 1)
	s.has("true, not 0")
}

func TestDefine(t *testing.T) {
	s := fewScope(t)
	s.wrong("§a", api.ErrName)
	s.term("(+ x 2)", 2)
	s.term("(not p)", 4)
	s.define("a", 2)
	s.define("c", 4)
	s.define("d", 2) // two names may have one term
	s.term("a", 2)
	s.term("|c|", 4)
	s.term("d", 2)
	s.term("(ite c a (- d))", 6)
	s.has("x, 2, add 0 1, p, not 3, mul -1 2, ite 4 2 5")
}

func TestDefineOfNoTerm(t *testing.T) {
	s := fewScope(t)
	for _, name := range []string{"a", "true", "x", ""} {
		for _, n := range []int{0, 1, -1, 1 << 62, -1 << 63} {
			s.notDefined(name, n, api.ErrArg)
		}
	}
	s.term("(not p)", 1)
	for _, n := range []int{-1, 2, 3, 4096, 1<<63 - 1, -1 << 63} {
		s.notDefined("a", n, api.ErrArg)
		s.notDefined("p", n, api.ErrArg)
		s.notDefined("false", n, api.ErrArg)
	}
	s.wrong("§a", api.ErrName)
	s.define("a", 1)
	s.notDefined("a", 2, api.ErrArg)
	s.term("a", 1)
}

func TestDefineOfNamesThatAreTaken(t *testing.T) {
	s := fewScope(t)
	s.term("(not p)", 1)
	s.define("a", 0)
	for _, name := range []string{"true", "false", "p", "x", "f", "b", "a"} {
		s.notDefined(name, 1, api.ErrName)
		s.notDefined(name, 0, api.ErrName)
	}
	s.term("a", 0)
	s.term("p", 0)
	s.term("true", 2)
}

// All other names may be defined, those of operators, too, and whatever signs they have.
func TestDefineOfAnyName(t *testing.T) {
	s := fewScope(t)
	s.term("(not p)", 1)
	for _, name := range []string{"and", "let", "=", "+", "True", "TRUE", "X", "px", " p", "", "1", "a b", ":k", "(", "é", "|", "true "} {
		s.define(name, 1)
		s.notDefined(name, 0, api.ErrName)
		s.termOf(api.Expr{Kind: api.Symbol, Text: name}, 1)
	}
	s.term("and", 1)
	s.term("||", 1)
	s.term("(and and p)", 2)
}

// A scope looks at its pool as that is when it is asked.
func TestPoolsThatGrow(t *testing.T) {
	s := newScope(t)
	s.wrong("§new", api.ErrName)
	if _, err := s.p.Declare(named("new", 0, api.Whole)); err != api.OK {
		t.Fatal(err)
	}
	s.term("new", 0)
	s.notDefined("new", 0, api.ErrName)
	if n := add(t, s.p, num(7)); n != 1 {
		t.Fatalf("7 is %d", n)
	}
	s.define("seven", 1)
	s.term("(* seven new)", 2)
	s.has("new, 7, mul 7 0")
	n := add(t, s.p, api.Term{Op: api.OpAdd, Args: []int{1, 1}})
	s.define("twice", n)
	s.term("(* new twice 2)", 5)
	s.has("new, 7, mul 7 0, add 1 1, 2, mul 28 0")
	if _, err := s.p.Declare(named("f", 1, api.Whole)); err != api.OK {
		t.Fatal(err)
	}
	s.term("(f new)", 6)
}

// A name that is defined stays ahead of a symbol that is declared behind it; but no list begins with it.
func TestSymbolsBehindNames(t *testing.T) {
	s := newScope(t)
	s.term("5", 0)
	s.define("a", 0)
	s.wrong("(§a)", api.ErrName)
	if _, err := s.p.Declare(named("a", 0, api.Bool)); err != api.OK {
		t.Fatal(err)
	}
	s.term("a", 0)
	s.term("(a)", 1)
	s.notDefined("a", 0, api.ErrName)
	s.has("5, a")
}

// Scopes of one pool share its terms, but not their names.
func TestScopesAreApart(t *testing.T) {
	a := fewScope(t)
	b := scope{t, a.p, front.New(a.p)}
	a.term("(+ x 1)", 2)
	b.term("(+ x 1)", 2)
	a.define("n", 2)
	b.wrong("§n", api.ErrName)
	b.define("n", 1)
	a.term("n", 2)
	b.term("n", 1)
	other := fewScope(t)
	other.wrong("§n", api.ErrName)
	other.term("y", 0)
	a.has("x, 1, add 0 1")
}

// What was made ahead of an error stays in the pool, and nothing else changes.
func TestTermsThatStay(t *testing.T) {
	s := fewScope(t)
	s.wrong("(and p (or q §nosuch) r)", api.ErrName)
	s.has("p, q")
	s.wrong("(+ x (* 2 x) §:k (f x))", api.ErrForm)
	s.has("p, q, x, 2, mul 2 2")
	s.wrong("(let ((a y) (c §f)) (and a c))", api.ErrCount)
	s.has("p, q, x, 2, mul 2 2, y")
	s.wrong("(let ((a (- y))) (not (§a)))", api.ErrName)
	s.has("p, q, x, 2, mul 2 2, y, mul -1 5")
	s.wrong("(ite p x §())", api.ErrForm)
	s.has("p, q, x, 2, mul 2 2, y, mul -1 5")
	s.wrong("§a", api.ErrName)
	s.wrong("§c", api.ErrName)
	s.notDefined("p", 0, api.ErrName)
	s.define("a", 1)
	s.term("(and p a)", 7)
	s.term("(f x)", 8)
}

// Names of a let that isn't read to its end don't stand for anything behind it.
func TestLetsThatAreLeft(t *testing.T) {
	s := fewScope(t)
	s.wrong("(let ((a p) (x q)) (and a x (let ((c r)) §nosuch)))", api.ErrName)
	s.wrong("§a", api.ErrName)
	s.wrong("§c", api.ErrName)
	s.has("p, q, r")
	s.term("x", 3)
}
