package front_test

import (
	"strconv"
	"strings"
	"testing"

	"elenchus/api"
	"elenchus/front"
)

func TestLet(t *testing.T) {
	makes(t, "(let ((a x)) a)", "x")
	makes(t, "(let ((a x) (c y)) (- a c))", "x, y, mul -1 1, add 0 2")
	makes(t, "(let ((a x) (c y)) (- c a))", "x, y, mul -1 0, add 1 2")
	makes(t, "(let ((a (+ x 1))) (* 3 a))", "x, 1, add 0 1, 3, mul 3 2")
	makes(t, "(let ((|| p) (|a b| q)) (and || |a b|))", "p, q, and 0 1")
	// The names' expressions are read in any case, and ahead of the body.
	checkRead(t, few(), "(let ((a x) (c y)) 1)", "x, y, 1", 2)
	checkRead(t, few(), "(let ((c y) (a x)) c)", "y, x", 0)
	checkRead(t, few(), "(let ((a (not p))) true)", "p, not 0, true", 2)
}

// Expressions are read outside of the let: its names don't stand for anything there yet.
func TestLetsAreReadOutside(t *testing.T) {
	wrong(t, "(let ((a x) (c §a)) c)", api.ErrName)
	wrong(t, "(let ((a §a)) a)", api.ErrName)
	wrong(t, "(let ((c §a) (a x)) c)", api.ErrName)
	wrong(t, "(and p (let ((a p)) a) §a)", api.ErrName)
	wrong(t, "(let ((a x)) a) §a", api.ErrName)
	wrong(t, "(let ((a (let ((c x)) c))) §c)", api.ErrName)
	wrong(t, "(let ((a (let ((c x)) c)) (d §c)) d)", api.ErrName)
	checkRead(t, few(), "(let ((x y) (y x)) (- x y))", "y, x, mul -1 1, add 0 2", 3)
	checkRead(t, few(), "(let ((x y)) (let ((y x) (x 1)) (+ x y)))", "y, 1, add 1 0", 2)
	checkRead(t, few(), "(let ((x 1)) (let ((x (+ x 2))) (let ((x (+ x 3))) x)))", "1, 2, add 0 1, 3, add 2 3", 4)
	checkRead(t, few(), "(let ((x 1)) (+ (let ((x 2)) x) x (let ((x 3)) x) x))", "1, 2, 3, add 1 0 2 0", 3)
	checkRead(t, few(), "(let ((x 1)) x) x", "1, x", 0, 1)
}

// Names hide those of lets around, and symbols, but no operators, and no symbol where a list begins with it.
func TestLetsThatHide(t *testing.T) {
	checkRead(t, few(), "(let ((p q)) (and p q))", "q, and 0 0", 1)
	checkRead(t, few(), "(let ((x p)) (and x x))", "p, and 0 0", 1)
	checkRead(t, few(), "(let ((f x)) (f f))", "x, f 0", 1)
	checkRead(t, few(), "(let ((and p) (or q)) (and and or))", "p, q, and 0 1", 2)
	checkRead(t, few(), "(let ((let p)) let)", "p", 0)
	checkRead(t, few(), "(let ((let p)) (let ((let q)) (and let p)))", "p, q, and 1 0", 2)
	checkRead(t, few(), "(let ((- x)) (- -))", "x, mul -1 0", 1)
	checkRead(t, few(), "(let ((true false)) true)", "false, true", 1)
	wrong(t, "(let ((a p)) (§a p))", api.ErrName)
	wrong(t, "(let ((a x)) (+ a (§a)))", api.ErrName)
	wrong(t, "(let ((f x)) (+ (f f) §(f)))", api.ErrCount)
	s := fewScope(t)
	s.term("7", 0)
	s.define("d", 0)
	s.term("(let ((d 8)) (+ d (let ((d 9)) d)))", 3)
	s.term("d", 0)
	s.has("7, 8, 9, add 1 2")
}

func TestLetsOfNoForm(t *testing.T) {
	for _, text := range []string{
		"§(let)", "§(let p)", "§(let ((a p)))", "§(let ((a p)) a a)", "§(let a p)", "§(let 1 p)", "§(let :k p)",
		"§(let () p)", "§(let (a p) a)", "§(let (a) p)", "§(let (()) p)", "§(let ((a)) p)", "§(let ((a p q)) a)",
		"§(let ((1 p)) p)", "§(let ((:a p)) p)", "§(let (((a) p)) p)", "§(let ((() p)) p)", "§(let ((a p) ()) a)",
		"§(let ((a p) c) a)", "§(let ((a p) (c)) a)", "§(let ((a p) (c q q)) a)", "§(let ((a p) (1 q)) a)", "§(let ((a p) 1) a)",
		"§(let p ((a p)))", "§(let ((a p)) . a)", "§(let ((a p) :k) a)",
	} {
		wrong(t, text, api.ErrForm)
		wrong(t, "(and q "+text+" nosuch)", api.ErrForm)
		wrong(t, "(let ((c q)) "+text+")", api.ErrForm)
		wrong(t, "(let ((c "+text+")) nosuch)", api.ErrForm)
	}
}

// Nothing of a let without its form is read, so that its error is the list's, whatever else is wrong.
func TestFormsCountAheadOfParts(t *testing.T) {
	s := fewScope(t)
	for _, marked := range []string{
		"§(let ((a p) (a nosuch) (c)) a)", "§(let ((a p)) q r)", "§(let ((a nosuch)))", "§(let ((a ()) 1) p)",
		"§(let ((a p) (a p) (1 p)) a)", "§(let ((a (f x x)) (:k p)) a)",
	} {
		s.wrong(marked, api.ErrForm)
	}
	s.has("")
}

// A name may not stand twice in one let. That is told behind its expression, and ahead of all that follows.
func TestLetsOfOneNameTwice(t *testing.T) {
	wrong(t, "(let ((a p) (§a q)) a)", api.ErrName)
	wrong(t, "(let ((a p) (§a p)) a)", api.ErrName)
	wrong(t, "(let ((a p) (c q) (§a r)) a)", api.ErrName)
	wrong(t, "(let ((a p) (c q) (§c r) (a ())) nosuch)", api.ErrName)
	wrong(t, "(let ((a p) (§|a| q)) a)", api.ErrName)
	wrong(t, "(let ((true p) (§true q)) p)", api.ErrName)
	wrong(t, "(let ((x p) (§x q)) p)", api.ErrName)
	wrong(t, "(let ((|| p) (§|| q)) p)", api.ErrName)
	wrong(t, "(let ((a p) (a §nosuch)) a)", api.ErrName)
	wrong(t, "(let ((a p) (a §())) a)", api.ErrForm)
	wrong(t, "(let ((a p) (a §(+ x q))) a)", api.ErrSort)
	wrong(t, "(let ((a p)) (let ((a q) (§a r)) a))", api.ErrName)
	wrong(t, "(let ((a (let ((a p) (§a q)) a))) a)", api.ErrName)
	makes(t, "(let ((a p)) (let ((a q)) (let ((a r)) a)))", "p, q, r")
	makes(t, "(let ((a p) (A q)) (and a A))", "p, q, and 0 1")
	s := fewScope(t)
	s.wrong("(let ((a p) (c q) (§a (not r)) (d x)) (b y))", api.ErrName)
	s.has("p, q, r, not 2")
}

// Many names of one let, and lets within one another as deep as may be: the names' lists are two levels deeper.
func TestManyNames(t *testing.T) {
	var names, sum strings.Builder
	for i := range api.MaxArgs {
		name := "n" + strconv.Itoa(i)
		names.WriteString("(" + name + " " + []string{"x", "y"}[i%2] + ")")
		sum.WriteString(" " + name)
	}
	makes(t, "(let ("+names.String()+") (+"+sum.String()+"))", "x, y, add"+strings.Repeat(" 0 1", api.MaxArgs/2))
	deep := "a"
	for range api.MaxDeep - 2 {
		deep = "(let ((a x)) " + deep + ")"
	}
	makes(t, deep, "x")
	hides := "x"
	for range api.MaxDeep - 3 {
		hides = "(let ((x (+ x y))) " + hides + ")"
	}
	r, numbers, at, err := front.Read(few(), hides)
	if err != api.OK || len(r.Terms) != api.MaxDeep-1 || numbers[0] != api.MaxDeep-2 {
		t.Fatalf("Read of lets that hide x: %v of %s, error %d at %d", numbers, show(r), err, at)
	}
}
