package smt_test

import (
	"slices"
	"testing"

	"elenchus/api"
)

// isCore fails unless these conditions clash, and just those of the assumed ones are told that stand at some places.
func isCore(t *testing.T, asserts, assume string, places ...int) {
	t.Helper()
	q := read(t, asserts, assume)
	var want []int
	for _, i := range places {
		want = append(want, q.assume[i])
	}
	q.enough(t)
	if a := q.check(t, api.MaxFuel); a.Kind != api.Unsat || !slices.Equal(a.Core, want) {
		t.Fatalf("%q, assumed %q: %d, %v, but it is Unsat by %v", asserts, assume, a.Kind, a.Core, want)
	}
}

// Where just some of the assumed conditions clash, these are told, in the order in which they stand first.
func TestCores(t *testing.T) {
	isCore(t, "", "p (not p)", 0, 1)
	isCore(t, "", "(not p) p", 0, 1)
	isCore(t, "", "q (not p) s p q", 1, 3)
	isCore(t, "p", "q (not p) s", 1)
	isCore(t, "", "p false q", 1)
	isCore(t, "p q", "true s (not (and p q))", 2)
	isCore(t, "", "(< x y) (b x) (< y z) p (< z x)", 0, 2, 4)
	isCore(t, "(< y z)", "(< z x) (b x) (< x y) p", 0, 2)
	isCore(t, "(= x y)", "(= (f x) 1) (= (f z) 3) (= (f y) 2)", 0, 2)
	isCore(t, "", "(= (f y) 2) (= (f z) 3) (= (f x) 1) (= y x)", 0, 2, 3)
	isCore(t, "", "(= (* 2 x) (+ (* 2 y) z)) (<= 0 x 3) p (<= 0 y 3) (= z 1)", 0, 1, 3, 4)
	isCore(t, "", "p (<= (+ x 1) x) (< x y)", 1)
	isCore(t, "(b x)", "(b y) (not (b z)) (= y x) (= z x)", 1, 3)
	isCore(t, "(= z (ite p x y))", "(distinct z x) p (distinct z y) (< x y)", 0, 1)
	isCore(t, "(= z (ite p x y))", "(distinct z x) (distinct z y)", 0, 1)
}

// Of what is asserted alone no assumption is told, whatever else clashes.
func TestNoCore(t *testing.T) {
	for _, alone := range []string{"false", "p (not p)", "(< x y) (< y x)", "(= x y) (distinct (f x) (f y))", "(= (* 2 x) 3)", "(= (* 2 x) (+ y y 1))", "(b x) (not (b y)) (= x y)", "(< (ite p x y) x) (<= x y)", "(or p q) (=> p (< x x)) (=> q (= (+ x 1) x))", "(distinct x y z) (<= 0 x 1) (<= 0 y 1) (<= 0 z 1)"} {
		for _, assume := range []string{"", "true", "false", "s", "s (not s)", "p", "(not p) p", "(= x 3) (= x 4)", "(< x y)", "(< y x) false", "(= (f x) 1) (= (f y) 2) (= x y)", "(= (* 2 z) 1)"} {
			isCore(t, alone, assume)
		}
		isCore(t, alone, alone)
	}
}

// The same term asserted and assumed, and more than once.
func TestTheSameTwice(t *testing.T) {
	for _, text := range []string{"p (not p)", "(< x y) (< y x)", "(= (f x) 1) (= (f x) 2)", "(b x) (not (b x))"} {
		q := read(t, text, "")
		one, other := q.asserts[0], q.asserts[1]
		for _, c := range []struct{ asserts, assume, core []int }{
			{[]int{one, one}, []int{other, other, one}, []int{other}},
			{[]int{one}, []int{one, one, other}, []int{other}},
			{nil, []int{one, one, other, one, other}, []int{one, other}},
			{nil, []int{other, one, other, one}, []int{other, one}},
			{[]int{one, other, one}, []int{other, one, one}, nil},
			{[]int{one, other}, nil, nil},
		} {
			if a := q.of(c.asserts, c.assume).enough(t); a.Kind != api.Unsat || !slices.Equal(a.Core, c.core) {
				t.Fatalf("Solve of %s: %d, %v, but it is Unsat by %v", q.of(c.asserts, c.assume), a.Kind, a.Core, c.core)
			}
		}
		for _, c := range []struct{ asserts, assume []int }{{[]int{one, one, one}, nil}, {[]int{one}, []int{one, one}}, {nil, []int{other, other}}} {
			if a := q.of(c.asserts, c.assume).enough(t); a.Kind != api.Sat {
				t.Fatalf("Solve of %s: Unsat by %v", q.of(c.asserts, c.assume), a.Core)
			}
		}
	}
}

// Terms that mean the same are conditions of their own: of those that are told each is a number that is assumed.
func TestTermsThatMeanTheSame(t *testing.T) {
	for _, c := range []struct{ asserts, assume string }{
		{"", "(<= x 3) (< x 4) (>= x 4) (> x 3)"}, {"(<= x 3)", "(> x 3) (>= x 4) (not (<= x 3))"}, {"", "p (and p p) (not p) (not (and p p))"},
		{"", "(= x y) (= y x) (distinct x y) (distinct y x)"}, {"", "(not (not p)) p (not p)"}, {"", "(<= (* 2 x) 7) (<= x 3) (<= 7 (* 2 x))"}, {"", "false (< x x) (not true)"},
	} {
		q := read(t, c.asserts, c.assume)
		q.enough(t)
		a := q.check(t, api.MaxFuel)
		if a.Kind != api.Unsat || len(a.Core) == 0 {
			t.Fatalf("%q, assumed %q: %d, %v", c.asserts, c.assume, a.Kind, a.Core)
		}
		slices.Reverse(q.assume)
		q.check(t, api.MaxFuel)
	}
}

// Long lists, of the same conditions again and again.
func TestLongLists(t *testing.T) {
	q := read(t, "p (< x y) (b x) (= (f x) 3)", "q (< y z) (< z x) s")
	many := q.of(slices.Repeat(q.asserts, 20000), slices.Repeat(q.assume, 20000))
	if a := many.enough(t); a.Kind != api.Unsat || !slices.Equal(a.Core, q.assume[1:3]) {
		t.Fatalf("%s again and again: %d, %v", q, a.Kind, a.Core)
	}
	many = q.of(slices.Repeat(q.asserts, 20000), slices.Repeat(q.assume[:2], 20000))
	if a := many.enough(t); a.Kind != api.Sat {
		t.Fatalf("%s again and again: %d, %v", q, a.Kind, a.Core)
	}
}
