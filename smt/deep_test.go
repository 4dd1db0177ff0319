package smt_test

import (
	"testing"

	"elenchus/api"
)

// clashingDeep are conditions that no whole numbers meet, and for which layer 15 branches without end.
func clashingDeep() []string {
	return []string{"(= x (* 2 y)) (= x (+ (* 2 z) 1))", "(= (* 2 x) (+ (* 2 y) z)) (= z 1)", "(= x (* 3 y)) (= x (+ (* 3 z) 1))", "(= (f x) (* 2 x)) (= (f x) (+ (* 2 y) 1))", "(= (* 2 x) (+ y z)) (= y (+ z 1))", "(= (* 6 x) (+ (* 10 y) z)) (= z 1)"}
}

// holdingDeep are conditions that whole numbers meet, but just such as are far apart.
func holdingDeep() []string {
	return []string{"(= (+ (* 12345 x) (* 67891 y)) 1)", "(= (* 1000 x) (+ (* 999 y) 500)) (< 1000000 x)", "(= (+ (* 1237 x) (* 1543 y)) z) (= z 1)", "(= (* 257 (f x)) (+ (* 263 (f y)) 1))"}
}

// Where a search among whole numbers goes too deep it isn't known what it would find: neither is told.
func TestTooDeep(t *testing.T) {
	unknown := 0
	for i, text := range append(clashingDeep(), holdingDeep()...) {
		wrong := api.Sat
		if i >= len(clashingDeep()) {
			wrong = api.Unsat
		}
		for _, q := range read(t, text, "").splits() {
			for _, fuel := range []int{0, 1, 2, 10, 100, 1000, 20000, api.MaxFuel} {
				a := q.ask(t, fuel)
				if a.Kind == wrong {
					t.Fatalf("Solve of %s, fuel %d: %v", q, fuel, a)
				}
				if a.Kind == api.Unknown && a.used < fuel {
					unknown++
				}
			}
		}
	}
	if unknown == 0 {
		t.Fatal("no search goes too deep: these conditions test nothing")
	}
}

// Where some truths are too deep others may have a model. Where all others clash nothing is known: what was
// passed over may have one.
func TestPassedOver(t *testing.T) {
	for _, deep := range clashingDeep() {
		deep = "(and " + deep + ")"
		sat(t, "(or p "+deep+")", "(=> p "+deep+")", "(=> (not p) "+deep+") (=> (not q) "+deep+")", "(or "+deep+" (= z 7))", "(ite p "+deep+" (= z 3)) (or (not p) q)")
	}
	for _, text := range holdingDeep() {
		for _, more := range []string{"(or p q)", "(or p (< x x)) (or q (< y y))", "(or p q s) (= p q) (=> p s)"} {
			for _, q := range read(t, text+" "+more, "").splits() {
				if a := q.ask(t, api.MaxFuel); a.Kind == api.Unsat {
					t.Fatalf("Solve of %s: Unsat by %v", q, a.Core)
				}
			}
			if a := read(t, "(or (< x y) (and (= x y) p)) "+more, text).ask(t, api.MaxFuel); a.Kind == api.Unsat && len(a.Core) == 0 {
				t.Fatalf("%q, assumed %q: Unsat by %v", more, text, a.Core)
			}
		}
	}
}

// It isn't gone on for ever: many truths are left here, all of them too deep.
func TestPassedOverSomeTimes(t *testing.T) {
	for _, text := range clashingDeep() {
		q := read(t, text+" (or (= (f 1) 1) (= (f 2) 1) (= (f 3) 1) (= (f 4) 1)  (= (f 5) 1) (= (f 6) 1))", "")
		if a := q.ask(t, api.MaxFuel); a.Kind == api.Sat || a.used > api.MaxFuel/16 {
			t.Fatalf("Solve of %s: %d, %d was used", q, a.Kind, a.used)
		}
	}
}

// What is assumed may clash with what is asserted, and that this can hold alone may not be known: then no
// assumption is told that another one might be without.
func TestDeepAlone(t *testing.T) {
	for _, text := range clashingDeep() {
		for _, assume := range []string{"false", "p (not p)", "p (< x x)", "(< x y) (< y x)"} {
			if a := read(t, text, assume).ask(t, api.MaxFuel); a.Kind == api.Sat || len(a.Core) > 0 {
				t.Fatalf("%q, assumed %q: %d, %v", text, assume, a.Kind, a.Core)
			}
		}
	}
}
