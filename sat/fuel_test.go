package sat_test

import (
	"testing"

	"elenchus/api"
)

// With no fuel nothing can be found out, unless it is known already.
func TestFuelOfNone(t *testing.T) {
	p := newPair(t, 3, []int{1, 2}, []int{-1, 3}, []int{-2, 3})
	for _, list := range [][]int{nil, {1}, {-3}, {1, -3}, {1, -1}} {
		for range 3 {
			if a := p.solve(list, 0); a.kind != api.Unknown || a.used != 0 {
				t.Fatalf("Solve of %v: %v", list, a)
			}
		}
	}
	p.isSat(1)
	p.isUnsat([]int{-3, 2}[:1], -3)
	if a := p.solve([]int{1}, 0); a.kind != api.Unknown {
		t.Fatal(a)
	}
	if a := newPair(t, 0).solve(nil, 0); a.kind == api.Unsat {
		t.Fatal(a)
	}
}

// Whatever the fuel is, the answer is right, and no more is used; where it was Unknown, it is found with more.
func TestEachFuel(t *testing.T) {
	r := chance()
	fuels := []int{0, 1, 2, 3, 4, 5, 7, 10, 20, 50, 100, 1000, api.MaxFuel - 1, api.MaxFuel}
	for range 60 {
		n := 1 + r.IntN(9)
		one := newPair(t, n)
		for range r.IntN(6 * n) {
			one.add(anyLiterals(r, n, 1+r.IntN(4)))
		}
		list := anyLiterals(r, n, r.IntN(4))
		want := one.anew().enough(list...)
		for _, fuel := range fuels {
			for _, p := range []pair{one, one.anew()} {
				a := p.solve(list, fuel)
				if a.kind != api.Unknown && a.kind != want.kind {
					t.Fatalf("Solve of %v, fuel %d: %d, not %d", list, fuel, a.kind, want.kind)
				}
			}
		}
		one.enough(list...)
	}
}

// What suffices once suffices a solver that was told the same, and none that needs more has it with less.
func TestFuelThatSuffices(t *testing.T) {
	n, clauses := pigeons(7, 6)
	list := []int{3, -8}
	all := newPair(t, n, clauses...).asked(list, api.MaxFuel)
	if all.kind != api.Unsat || all.used < 2 {
		t.Fatal(all)
	}
	if a := newPair(t, n, clauses...).asked(list, all.used); !isSame(a, all) {
		t.Fatalf("fuel %d: %v, not %v", all.used, a, all)
	}
	for _, fuel := range []int{0, 1, all.used / 2, all.used - 1} {
		if a := newPair(t, n, clauses...).asked(list, fuel); a.kind != api.Unknown {
			t.Fatalf("fuel %d, but %d are used: %v", fuel, all.used, a)
		}
	}
}

// A call ends, though there is much to be found out: then the fuel is used up, and what was learned by
// then changes nothing but that less is left to be done.
func TestHardClausesEnd(t *testing.T) {
	n, clauses := pigeons(12, 11)
	p := newPair(t, n, clauses...)
	for _, fuel := range []int{1, 2, 100, 5000, 50000} {
		if a := p.asked(nil, fuel); a.kind == api.Sat {
			t.Fatalf("fuel %d: %v", fuel, a)
		}
		if a := p.asked([]int{1, -1}, fuel); a.kind == api.Sat {
			t.Fatalf("fuel %d: %v", fuel, a)
		}
	}
	n, clauses = pigeons(8, 7)
	p = newPair(t, n, clauses...)
	for range 1000 {
		a := p.asked([]int{2}, 1000)
		if a.kind == api.Unknown {
			continue
		}
		if a.kind != api.Unsat || len(a.core) != 0 {
			t.Fatal(a)
		}
		return
	}
	t.Fatal("bits of fuel don't come to an end")
}

// The fuel may end anywhere on a long row of what must hold, and the row is gone on with.
func TestFuelEndsOnALongRow(t *testing.T) {
	const n = 3000
	for _, clash := range []bool{false, true} {
		p := newPair(t, n, chain(n)...)
		p.add([]int{1})
		if clash {
			p.add([]int{-n})
		}
		for calls := 0; ; calls++ {
			a := p.asked(nil, calls%3)
			if a.kind == api.Unknown && calls < 10000 {
				continue
			}
			if clash != (a.kind == api.Unsat) || !clash != (a.kind == api.Sat) || calls < 5 {
				t.Fatalf("a clash: %v, behind %d calls: %d", clash, calls, a.kind)
			}
			break
		}
	}
}

// The fuel may end just where a clash is found out, and the clash isn't lost.
func TestFuelEndsAtAClash(t *testing.T) {
	for n := 2; n < 700; n++ {
		for _, fuel := range []int{1, 2} {
			p := newPair(t, n, chain(n)...)
			p.add([]int{1, 1}, []int{-n})
			a := p.asked(nil, fuel)
			for calls := 0; a.kind == api.Unknown && calls < n; calls++ {
				a = p.asked(nil, fuel)
			}
			if a.kind != api.Unsat {
				t.Fatalf("a chain of %d, its ends clash: %d", n, a.kind)
			}
		}
	}
}

// Between calls that the fuel ended clauses are added, and nothing is lost.
func TestAddBetweenBitsOfFuel(t *testing.T) {
	r := chance()
	for range 40 {
		n := 8 + r.IntN(3)
		p := newPair(t, n)
		for range 6 * n {
			p.add(anyLiterals(r, n, 2+r.IntN(3)))
			p.solve(anyLiterals(r, n, r.IntN(3)), r.IntN(3))
		}
		p.enough()
		p.enough(anyLiterals(r, n, 3)...)
	}
}
