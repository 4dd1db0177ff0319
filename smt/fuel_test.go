package smt_test

import (
	"strconv"
	"strings"
	"testing"

	"elenchus/api"
)

// exemplars are questions of each answer, at once and by some search.
func exemplars(t *testing.T) []question {
	t.Helper()
	var out []question
	for _, c := range [][2]string{
		{"", ""}, {"true", ""}, {"false", ""}, {"", "false"}, {"p", "q"}, {"p", "(not p)"}, {"", "p (not p) q"}, {"(= x 3)", "(b x) (not (b 4))"}, {"(< x y) (< y z)", "(= (f x) 3)"}, {"(< x y)", "(< y z) p (< z x)"},
		{"(= x y)", "(distinct (f x) (f y))"}, {"(= (f x) 18446744073709551616) (= (g (f x) y) (- 5))", "(= (f y) 7) p (= y (+ x 1))"}, {"(= (h x y z 0) 1) (not (d 1 2 3 x))", "(d 1 2 z 3) (= z 3) (= x 3)"},
		{"(= (+ (* 3 x) (* 5 y)) 1)", "(< 10 x)"}, {"(= (* 7 x) (+ (* 5 y) 1))", "(<= 0 x 2) (<= 0 y 3)"}, {"(= (ite p x y) 3)", "(distinct x 3) (distinct y 3)"}, {"(= (ite p x y) 3)", "(distinct x 3)"},
		{"(distinct x y z) (<= 0 x 1) (<= 0 y 1) (<= 0 z 1)", "(= x 1)"}, {"(or (= x 1) (= x 2) (= x 3)) (or (= y 1) (= y 2) (= y 3)) (< (+ x y) 3) (= (f x) (f y))", "(distinct (f 1) (f x))"},
		{"(= x (* 2 y)) (= x (+ (* 2 z) 1))", ""}, {"(= x (* 2 y)) (= x (+ (* 2 z) 1))", "p false"},
	} {
		out = append(out, read(t, c[0], c[1]))
	}
	return out
}

// checkFuels fails unless the answer is told with just as much fuel as is used, and with more, and with none of less.
func (q question) checkFuels(t *testing.T, less func(used int) []int) {
	t.Helper()
	all := q.ask(t, api.MaxFuel)
	for _, fuel := range []int{all.used, all.used + 1, 2*all.used + 5, api.MaxFuel - 1} {
		if a := q.ask(t, fuel); !isSame(a, all) {
			t.Fatalf("Solve of %s, fuel %d: %v, not %v", q, fuel, a, all)
		}
	}
	for _, fuel := range less(all.used) {
		if a := q.ask(t, fuel); a.Kind != api.Unknown {
			t.Fatalf("Solve of %s, fuel %d: %v, but %d is needed", q, fuel, a, all.used)
		}
	}
}

// each are all numbers below one.
func each(used int) []int {
	var out []int
	for fuel := range used {
		out = append(out, fuel)
	}
	return out
}

func TestEachFuel(t *testing.T) {
	for _, q := range exemplars(t) {
		q.checkFuels(t, each)
	}
	r := chance()
	for range 150 {
		q := grow(t, r).question(16, 3)
		if q.ask(t, 2000).Kind != api.Unknown {
			q.checkFuels(t, each)
		}
	}
}

// Where there are many rows, too, just so much is used as is needed.
func TestFuelOfManyRows(t *testing.T) {
	var steps strings.Builder
	for n := range 25 {
		steps.WriteString("(< (+ (f " + strconv.Itoa(n) + ") (f " + strconv.Itoa(n+1) + ")) (* 2 (f " + strconv.Itoa(n+2) + "))) ")
	}
	few := func(used int) []int { return []int{0, 1, used / 2, used - 2, used - 1} }
	for _, assume := range []string{"", "(< 0 (f 0)) (< 0 (f 1))", "(<= (f 25) (f 24) (f 23))", "(or (= (f 0) 1) (= (f 0) 2)) (= (f 1) 4) (distinct (f 2) 3)"} {
		read(t, steps.String(), assume).checkFuels(t, few)
	}
}

// What truths alone take counts, too: five are to be in four places, each in one of its own.
func TestFuelOfTruths(t *testing.T) {
	at := func(one, place int) string { return "(b " + strconv.Itoa(10*one+place) + ")" }
	var text strings.Builder
	for one := range 5 {
		text.WriteString("(or " + at(one, 0) + at(one, 1) + at(one, 2) + at(one, 3) + ") ")
		for other := range one {
			for place := range 4 {
				text.WriteString("(not (and " + at(one, place) + at(other, place) + ")) ")
			}
		}
	}
	for _, q := range []question{read(t, text.String(), ""), read(t, text.String(), "p false"), read(t, "", text.String())} {
		if a := q.enough(t); a.Kind != api.Unsat || a.used < 5 {
			t.Fatalf("five in four places: %d, %d was used", a.Kind, a.used)
		}
		q.checkFuels(t, each)
	}
}

// Without fuel nothing is done, so that nothing is known.
func TestNoFuel(t *testing.T) {
	for _, q := range exemplars(t) {
		if a := q.ask(t, 0); a.Kind != api.Unknown || a.used != 0 {
			t.Fatalf("Solve of %s, fuel 0: %v", q, a)
		}
	}
}

// What takes much more fuel than there is comes to an end: nine numbers from 1 to 8 are to be unlike.
func TestFarTooLittleFuel(t *testing.T) {
	r := api.Terms{}
	add := func(term api.Term) int {
		r.Terms = append(r.Terms, term)
		return len(r.Terms) - 1
	}
	low, high := add(api.Term{Op: api.OpNum, Num: small(1)}), add(api.Term{Op: api.OpNum, Num: small(8)})
	var all, asserts []int
	for n := range 9 {
		r.Syms = append(r.Syms, api.Sym{Name: string(rune('a' + n)), Sort: api.Whole})
		x := add(api.Term{Op: api.OpApp, Sym: n})
		asserts = append(asserts, add(api.Term{Op: api.OpLe, Args: []int{low, x}}), add(api.Term{Op: api.OpLe, Args: []int{x, high}}))
		for _, y := range all {
			asserts = append(asserts, add(api.Term{Op: api.OpNot, Args: []int{add(api.Term{Op: api.OpEq, Args: []int{x, y}})}}))
		}
		all = append(all, x)
	}
	for _, q := range []question{{r, asserts, nil}, {r, asserts[:20], asserts[20:]}, {r, nil, asserts}} {
		for _, fuel := range []int{1, 10, 100, 1000, 5000} {
			if a := q.ask(t, fuel); a.Kind == api.Sat || a.Kind == api.Unsat && fuel < 100 {
				t.Fatalf("fuel %d: %d, %d was used", fuel, a.Kind, a.used)
			}
		}
	}
}
