package sat_test

import (
	"slices"
	"testing"

	"elenchus/api"
	"elenchus/sat"
)

// spare is a list with room behind it, in which numbers stand; look tells whether list and room are as
// they were.
func spare(list []int) (out []int, look func() bool) {
	all := append(slices.Clone(list), 7, 7, 7, 7)
	was := slices.Clone(all)
	return all[:len(list)], func() bool { return slices.Equal(all, was) }
}

func writeOver(list []int) {
	list = list[:cap(list)]
	for i := range list {
		list[i] = 99
	}
}

// What is handed in stays, its spare room, too, and isn't kept: it may be written over behind the call.
func TestHandedIn(t *testing.T) {
	r := chance()
	for range 300 {
		n := 2 + r.IntN(6)
		p := newPair(t, n)
		for range 5 * n {
			c := anyLiterals(r, n, 1+r.IntN(4))
			p.o.clauses = append(p.o.clauses, slices.Clone(c))
			list, look := spare(c)
			if e := p.s.Add(list); e != api.OK || !look() {
				t.Fatalf("Add of %v: %d, what was handed in is %v", c, e, list)
			}
			writeOver(list)
		}
		for range 4 {
			c := anyLiterals(r, n, r.IntN(6))
			list, look := spare(c)
			p.enough(list...)
			p.solve(list, 0)
			if !look() {
				t.Fatalf("Solve of %v: what was handed in is %v", c, list)
			}
			writeOver(list)
			p.enough(c...)
		}
	}
}

func TestRefusedStays(t *testing.T) {
	s := sat.New(3)
	list, look := spare([]int{3, 1, -2, 4, 1})
	if e := s.Add(list); e != api.ErrArg || !look() {
		t.Fatalf("Add: %d, %v", e, list)
	}
	if _, _, _, _, e := s.Solve(list, 100); e != api.ErrArg || !look() {
		t.Fatalf("Solve: %d, %v", e, list)
	}
}

// What Solve answers may be written over: neither a later answer hangs on it, nor what was handed in.
func TestAnsweredIsNew(t *testing.T) {
	r := chance()
	for range 300 {
		n := 2 + r.IntN(6)
		p, o := newPair(t, n), newPair(t, n)
		for range 3 * n {
			c := anyLiterals(r, n, 1+r.IntN(3))
			p.add(c)
			o.add(c)
		}
		for range 8 {
			list := anyLiterals(r, n, r.IntN(6))
			was := slices.Clone(list)
			a, b := p.enough(list...), o.enough(list...)
			if !isSame(a, b) {
				t.Fatalf("Solve of %v: %v, not %v, where answers were written over", list, a, b)
			}
			writeOver(a.core)
			for i := range a.truths {
				a.truths[i] = !a.truths[i]
			}
			if !slices.Equal(list, was) {
				t.Fatalf("the core of %v is memory of the assumptions", was)
			}
			again := p.enough(list...)
			if !isSame(again, o.enough(list...)) {
				t.Fatalf("Solve of %v again: %v", list, again)
			}
		}
	}
}

// Two answers share nothing.
func TestAnswersShareNothing(t *testing.T) {
	s := sat.New(4)
	s.Add([]int{1, 2})
	_, one, _, _, _ := s.Solve(nil, 1000)
	_, two, _, _, _ := s.Solve(nil, 1000)
	was := slices.Clone(two)
	for i := range one {
		one[i] = !one[i]
	}
	if !slices.Equal(two, was) {
		t.Fatal("truths of two answers share memory")
	}
	_, _, a, _, _ := s.Solve([]int{-1, -2}, 1000)
	_, _, b, _, _ := s.Solve([]int{-1, -2}, 1000)
	writeOver(a)
	if !slices.Equal(b, []int{-1, -2}) {
		t.Fatalf("cores of two answers share memory: %v", b)
	}
}
