package whole_test

import (
	"slices"
	"testing"

	"elenchus/api"
	"elenchus/whole"
)

// calls are all calls that take numbers, and answer some.
func calls() map[string]func(a, b api.Int) []api.Int {
	one := func(f func(a api.Int) api.Int) func(a, b api.Int) []api.Int {
		return func(a, _ api.Int) []api.Int { return []api.Int{f(a)} }
	}
	two := func(f func(a, b api.Int) api.Int) func(a, b api.Int) []api.Int {
		return func(a, b api.Int) []api.Int { return []api.Int{f(a, b)} }
	}
	return map[string]func(a, b api.Int) []api.Int{
		"Norm": one(whole.Norm),
		"Neg":  one(whole.Neg),
		"Add":  two(whole.Add),
		"Sub":  two(whole.Sub),
		"Mul":  two(whole.Mul),
		"Gcd":  two(whole.Gcd),
		"Div": func(a, b api.Int) []api.Int {
			q, r, _ := whole.Div(a, b)
			return []api.Int{q, r}
		},
		"Sign, Cmp, Print": func(a, b api.Int) []api.Int {
			whole.Sign(a)
			whole.Cmp(a, b)
			whole.Print(a)
			return nil
		},
	}
}

// roomy is the same number with room to spare, in which nothing may be written.
func roomy(a api.Int) (api.Int, api.Nat) {
	room := append(slices.Clone(a.Abs), 77, 78, 79, 80)
	return api.Int{Neg: a.Neg, Abs: room[:len(a.Abs)]}, room
}

func copies(l []api.Int) []api.Int {
	var out []api.Int
	for _, a := range l {
		out = append(out, api.Int{Neg: a.Neg, Abs: slices.Clone(a.Abs)})
	}
	return out
}

func sameAll(a, b []api.Int) bool {
	return slices.EqualFunc(a, b, func(a, b api.Int) bool {
		return a.Neg == b.Neg && slices.Equal(a.Abs, b.Abs)
	})
}

// overwrite fills a list and its spare room.
func overwrite(n api.Nat) {
	n = n[:cap(n)]
	for i := range n {
		n[i] = 0xdead
	}
}

func memoryNumbers() []api.Int {
	return []api.Int{
		{}, {Neg: true, Abs: api.Nat{0}}, {Abs: api.Nat{6}}, {Neg: true, Abs: api.Nat{9, 0}},
		{Abs: api.Nat{1 << 40}}, {Abs: api.Nat{0, 1}}, {Neg: true, Abs: api.Nat{5, 0, 3, 0}},
		{Abs: api.Nat{1, 2, 3, 4, 5}}, {Neg: true, Abs: api.Nat{^uint64(0), ^uint64(0), ^uint64(0)}},
	}
}

func checkMemory(t *testing.T, name string, call func(a, b api.Int) []api.Int, a, b api.Int) {
	t.Helper()
	x, roomX := roomy(a)
	y, roomY := roomy(b)
	beforeX, beforeY := slices.Clone(roomX), slices.Clone(roomY)
	got := call(x, y)
	if !slices.Equal(roomX, beforeX) || !slices.Equal(roomY, beforeY) {
		t.Fatalf("%s of %v and %v changes what it is given", name, a, b)
	}
	want := copies(got)
	overwrite(roomX)
	overwrite(roomY)
	if !sameAll(got, want) {
		t.Fatalf("%s of %v and %v shares memory with what it is given", name, a, b)
	}
	for i := range got {
		overwrite(got[i].Abs)
		if !sameAll(got[i+1:], want[i+1:]) {
			t.Fatalf("%s of %v and %v: its answers share memory", name, a, b)
		}
	}
	if again := call(a, b); !sameAll(again, want) {
		t.Fatalf("%s of %v and %v shares memory with an answer ahead", name, a, b)
	}
}

func TestMemory(t *testing.T) {
	for name, call := range calls() {
		for _, a := range memoryNumbers() {
			for _, b := range memoryNumbers() {
				checkMemory(t, name, call, a, b)
			}
		}
	}
}

func TestMemoryOfOneNumberTwice(t *testing.T) {
	for name, call := range calls() {
		for _, a := range memoryNumbers() {
			room, _ := roomy(a)
			before := copies([]api.Int{room})
			call(room, room)
			if !sameAll([]api.Int{room}, before) {
				t.Fatalf("%s of %v and itself changes it", name, a)
			}
		}
	}
}

func TestMemoryOfOfAndParse(t *testing.T) {
	for range 2 {
		for v, s := range []string{"0", "1", "2", "3"} {
			a, e := whole.Parse(s)
			b := whole.Of(v)
			if e != api.OK || whole.Cmp(a, b) != 0 || whole.Print(b) != s {
				t.Fatalf("Parse of %s: %v; Of: %v", s, a, b)
			}
			overwrite(a.Abs)
			overwrite(b.Abs)
		}
	}
}
