package stack_test

import (
	"slices"
	"strconv"
	"testing"

	"elenchus/api"
)

// exemplars are tasks with answers of each kind, easy and less so.
func exemplars(t *testing.T) []task {
	t.Helper()
	return []task{
		read(t, "check"), read(t, "check false"), read(t, "check", "check", "check", "check"), read(t, "push", "assert false", "check", "pop", "check"), read(t, "assert p", "check (not p) q", "check q"),
		read(t, "assert (or p q) (<= 1 x 7)", "check p (not p)", "push", "assert (< x y) (< y x)", "check", "check p", "pop", "check (= (f x) 18446744073709551616) (= (f y) (- 5)) q"),
		read(t, "assert (= x y)", "push", "assert (b x)", "check (not (b y)) (b 4)", "check (= (f x) 2) (= (f y) 3) p", "pop", "assert (distinct (f x) 4)", "check (not (b y)) (b 4)", "check (= (f y) 4)", "push", "check (not (= x 2))"),
		read(t, "assert (= (+ (* 3 x) (* 5 y)) 1)", "check (< 10 x)", "push", "assert (distinct x y 7) (<= 0 x 9)", "check", "check (<= 8 x)", "check p (= x 3)", "pop", "check (= x 3)"),
		read(t, "assert (or (= x 1) (= x 2) (= x 3)) (or (= y 1) (= y 2) (= y 3))", "check (< (+ x y) 3) (= (f x) 1)", "push", "assert (distinct x y)", "check (distinct (f 1) (f x))", "check (= (+ x y) 2)", "pop", "check (= (+ x y) 2)"),
		read(t, "push", "assert (= x (* 2 y)) (= x (+ (* 2 (f 0)) 1))", "pop", "check", "push", "assert p", "push", "check", "check (not p)"),
	}
}

// ends are how much is used up to each check, that one too.
func (k task) ends(t *testing.T) []int {
	t.Helper()
	var out []int
	for i, c := range k.cmds {
		if c.Kind == api.CmdCheck {
			out = append(out, k.with(k.cmds[:i+1]...).run(t, api.MaxFuel).used)
		}
	}
	return out
}

// checkFuel fails unless just those checks are answered for which all that is needed is there, up to the first
// for which it isn't; and of those behind it none, if nothing is left, and none in another way.
func (k task) checkFuel(t *testing.T, fuel int, all result, ends []int) {
	t.Helper()
	a := k.run(t, fuel)
	first := slices.IndexFunc(ends, func(end int) bool { return end > fuel })
	if first < 0 {
		if !isSame(a, all) {
			t.Fatalf("Run of %s, fuel %d: %v, not %v", k, fuel, a, all)
		}
		return
	}
	isNothingLeft := first > 0 && ends[first-1] == fuel || fuel == 0
	for i, one := range a.answers {
		switch isUnknown := one.Kind == api.Unknown; {
		case i < first && !isSameAnswer(one, all.answers[i]), i > first && !isUnknown && !isSameAnswer(one, all.answers[i]):
			t.Fatalf("Run of %s, fuel %d: the check %d is answered %v, not %v", k, fuel, i, one, all.answers[i])
		case !isUnknown && (i == first || i > first && isNothingLeft):
			t.Fatalf("Run of %s, fuel %d: the check %d is answered %v, but %v is needed", k, fuel, i, one, ends)
		}
	}
	if isNothingLeft && a.used != fuel {
		t.Fatalf("Run of %s, fuel %d: %d was used, but %v is", k, fuel, a.used, ends)
	}
}

// Each fuel from 0 up to what is used, and more.
func TestEachFuel(t *testing.T) {
	for _, k := range exemplars(t) {
		all, ends := k.enough(t), k.ends(t)
		if ends[len(ends)-1] != all.used || !slices.IsSorted(ends) {
			t.Fatalf("Run of %s: %d was used, but check by check %v", k, all.used, ends)
		}
		for fuel := range all.used + 3 {
			k.checkFuel(t, fuel, all, ends)
		}
		k.checkFuel(t, 2*all.used+5, all, ends)
		k.checkFuel(t, api.MaxFuel-1, all, ends)
	}
}

func TestEachFuelOfAnyCommands(t *testing.T) {
	r := chance()
	for range 40 {
		k := anyRows(t, r, "", slices.Concat(simple(), ofNumbers()))
		k = k.with(anyCmds(r, k.truths(), 14)...)
		all := k.run(t, 20000)
		if slices.Contains(all.kinds(), api.Unknown) {
			continue
		}
		ends := k.ends(t)
		for fuel := range min(all.used+2, 400) {
			k.checkFuel(t, fuel, all, ends)
		}
	}
}

// Without fuel nothing is known, of no check.
func TestNoFuel(t *testing.T) {
	for _, k := range exemplars(t) {
		if a := k.run(t, 0); a.used != 0 || slices.ContainsFunc(a.kinds(), func(kind int) bool { return kind != api.Unknown }) {
			t.Fatalf("Run of %s, fuel 0: %v", k, a)
		}
	}
}

// The fuel is for all checks together: as many are answered as it suffices for, and all others are Unknown.
func TestFuelOfManyChecks(t *testing.T) {
	for _, line := range []string{"check", "check false", "check p (not p)", "check (< x y) (= (f x) 3)", "check (= x y) (distinct (f x) (f y))"} {
		k := read(t, line)
		one := k.enough(t)
		k = k.with(slices.Repeat(k.cmds, 1000)...)
		for _, fuel := range []int{0, 1, one.used, 2 * one.used, 7 * one.used, 1000 * one.used, 1001 * one.used} {
			a := k.run(t, fuel)
			answered := min(1000, fuel/one.used)
			if fuel%one.used == 0 && a.used != answered*one.used {
				t.Fatalf("%q, 1000 times, fuel %d: %d was used, though one uses %d", line, fuel, a.used, one.used)
			}
			for i, b := range a.answers {
				if i < answered && !isSameAnswer(b, one.answers[0]) || i >= answered && fuel%one.used == 0 && b.Kind != api.Unknown {
					t.Fatalf("%q, 1000 times, fuel %d, of which one uses %d: the check %d is answered %v", line, fuel, one.used, i, b)
				}
			}
		}
	}
}

// unlike are commands that assert so many numbers, each in one of so many places, and check whether they can be unlike.
func unlike(t *testing.T, count, places int) task {
	t.Helper()
	in, all := "", ""
	for n := range count {
		one := " (f " + strconv.Itoa(n) + ")"
		in += " (<= 1" + one + " " + strconv.Itoa(places) + ")"
		all += one
	}
	return read(t, "assert"+in, "check", "push", "assert (distinct"+all+")", "check", "check p", "pop", "check")
}

// What needs far more than there is comes to an end.
func TestFarTooLittleFuel(t *testing.T) {
	k := unlike(t, 8, 7)
	for _, fuel := range []int{1, 10, 100, 1000, 5000} {
		a := k.run(t, fuel)
		if a.answers[1].Kind == api.Sat || a.answers[2].Kind == api.Sat {
			t.Fatalf("fuel %d: %v", fuel, a)
		}
	}
}

// A check has all that is left, however much it needs.
func TestMuchFuel(t *testing.T) {
	k := unlike(t, 7, 6)
	a := k.enough(t)
	if a.used < 100000 || !slices.Equal(a.kinds(), []int{api.Sat, api.Unsat, api.Unsat, api.Sat}) {
		t.Fatalf("%v", a)
	}
	unlike(t, 6, 6).tell(t, "sat, sat, sat, sat", api.MaxFuel)
}
