package ratio_test

import (
	"slices"
	"testing"

	"elenchus/api"
	"elenchus/ratio"
)

// calls are all calls that take fractions; what they answer is told as lists of words.
func calls() map[string]func(a, b api.Rat) []api.Nat {
	return map[string]func(a, b api.Rat) []api.Nat{
		"Of":    func(a, _ api.Rat) []api.Nat { return words(ratio.Of(a.Num)) },
		"Add":   func(a, b api.Rat) []api.Nat { return words(ratio.Add(a, b)) },
		"Sub":   func(a, b api.Rat) []api.Nat { return words(ratio.Sub(a, b)) },
		"Mul":   func(a, b api.Rat) []api.Nat { return words(ratio.Mul(a, b)) },
		"Floor": func(a, _ api.Rat) []api.Nat { return []api.Nat{ratio.Floor(a).Abs} },
		"Ceil":  func(a, _ api.Rat) []api.Nat { return []api.Nat{ratio.Ceil(a).Abs} },
		"New": func(a, b api.Rat) []api.Nat {
			q, _ := ratio.New(a.Num, b.Num)
			return words(q)
		},
		"Div": func(a, b api.Rat) []api.Nat {
			q, _ := ratio.Div(a, b)
			return words(q)
		},
		"Sign, Cmp, Is": func(a, b api.Rat) []api.Nat {
			ratio.Sign(a)
			ratio.Cmp(a, b)
			ratio.Is(a)
			return nil
		},
	}
}

func words(a api.Rat) []api.Nat {
	return []api.Nat{a.Num.Abs, a.Den}
}

func copies(l []api.Nat) []api.Nat {
	var out []api.Nat
	for _, n := range l {
		out = append(out, slices.Clone(n))
	}
	return out
}

func sameAll(a, b []api.Nat) bool {
	return slices.EqualFunc(a, b, func(x, y api.Nat) bool { return slices.Equal(x, y) })
}

// roomy is the same fraction with room to spare, in which nothing may be written, and all its room.
func roomy(a api.Rat) (api.Rat, []api.Nat) {
	more := func(n api.Nat) api.Nat { return append(slices.Clone(n), 77, 78, 79, 80) }
	num, den := more(a.Num.Abs), more(a.Den)
	out := api.Rat{Num: api.Int{Neg: a.Num.Neg, Abs: num[:len(a.Num.Abs)]}, Den: den[:len(a.Den)]}
	return out, []api.Nat{num, den}
}

// overwrite fills lists and their spare room.
func overwrite(l ...api.Nat) {
	for _, n := range l {
		n = n[:cap(n)]
		for i := range n {
			n[i] = 0xdead
		}
	}
}

func memoryNumbers() []api.Rat {
	one := api.Nat{1}
	return []api.Rat{
		{}, {Num: api.Int{Neg: true, Abs: api.Nat{0}}, Den: api.Nat{0, 0}}, {Num: api.Int{Abs: one}, Den: one},
		small(3, 2), small(-4, 3), small(17, 1), {Num: api.Int{Neg: true, Abs: api.Nat{6, 0}}, Den: api.Nat{4, 0}},
		{Num: api.Int{Abs: api.Nat{3, 1, 4}}, Den: api.Nat{1, 5, 9, 2}}, {Num: api.Int{Neg: true, Abs: api.Nat{0, 8}}, Den: api.Nat{0, 4}},
	}
}

func checkMemory(t *testing.T, name string, call func(a, b api.Rat) []api.Nat, a, b api.Rat) {
	t.Helper()
	x, roomX := roomy(a)
	y, roomY := roomy(b)
	room := append(roomX, roomY...)
	before := copies(room)
	got := call(x, y)
	if !sameAll(room, before) {
		t.Fatalf("%s of %v and %v changes what it is given", name, a, b)
	}
	want := copies(got)
	overwrite(room...)
	if !sameAll(got, want) {
		t.Fatalf("%s of %v and %v shares memory with what it is given", name, a, b)
	}
	for i := range got {
		overwrite(got[i])
		if !sameAll(got[i+1:], want[i+1:]) {
			t.Fatalf("%s of %v and %v: its answer's numbers share memory", name, a, b)
		}
	}
	if again := call(a, b); !sameAll(again, want) {
		t.Fatalf("%s of %v and %v shares memory with an answer ahead", name, a, b)
	}
}

func TestMemory(t *testing.T) {
	for name, call := range calls() {
		for _, a := range memoryNumbers() {
			for _, b := range memoryNumbers() {
				checkMemory(t, name, call, a, b)
			}
		}
	}
}

func TestMemoryOfOneFractionTwice(t *testing.T) {
	for name, call := range calls() {
		for _, a := range memoryNumbers() {
			same, room := roomy(a)
			before := copies(room)
			call(same, same)
			if !sameAll(room, before) {
				t.Fatalf("%s of %v and itself changes it", name, a)
			}
		}
	}
}
