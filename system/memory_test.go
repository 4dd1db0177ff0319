package system_test

import (
	"slices"
	"testing"

	"elenchus/api"
	"elenchus/system"
)

// overwrite fills a list and its spare room.
func overwrite[T any](l []T, v T) {
	l = l[:cap(l)]
	for i := range l {
		l[i] = v
	}
}

// roomy is a list with room to spare, in which a value stands.
func roomy[T any](l []T, v T) []T {
	out := append(slices.Clone(l), v, v, v)
	return out[:len(l)]
}

// roomySystem is a system all whose lists have room to spare.
func roomySystem(s api.System) api.System {
	for i, what := range s.Terms.Terms {
		s.Terms.Terms[i].Args = roomy(what.Args, 77)
		s.Terms.Terms[i].Num.Abs = roomy(what.Num.Abs, 77)
	}
	s.Terms.Syms = roomy(s.Terms.Syms, named("spare", 7, 7))
	s.Terms.Terms = roomy(s.Terms.Terms, api.Term{Op: 77})
	s.Now, s.Next, s.Lemmas = roomy(s.Now, 77), roomy(s.Next, 77), roomy(s.Lemmas, 77)
	return s
}

// lists are all lists of numbers of a system.
func lists(s api.System) [][]int {
	out := [][]int{s.Now, s.Next, s.Lemmas}
	for _, what := range s.Terms.Terms {
		out = append(out, what.Args)
	}
	return out
}

// isSpare asks whether in a list's spare room nothing but a value stands.
func isSpare[T comparable](l []T, v T) bool {
	return !slices.ContainsFunc(l[len(l):cap(l)], func(x T) bool { return x != v && x != *new(T) })
}

// What Check is given stays, and isn't written behind.
func TestCheckChangesNothing(t *testing.T) {
	systems := []api.System{sample(), right(t, whole), right(t, counter), {}}
	for _, change := range []func(*api.System){
		func(s *api.System) { s.Prop = termNextB }, func(s *api.System) { s.Lemmas[1] = -1 }, func(s *api.System) { s.Lemmas[1] = termX },
		func(s *api.System) { slices.Reverse(s.Next) }, func(s *api.System) { s.Next = s.Now }, func(s *api.System) { s.Terms.Syms[3].Name = "x" },
	} {
		systems = append(systems, changed(change))
	}
	for _, s := range systems {
		s = roomySystem(s)
		before := show(s)
		first := system.Check(s)
		if show(s) != before || s.Terms.Syms[:len(s.Terms.Syms)+1][len(s.Terms.Syms)].Name != "spare" || s.Terms.Terms[:len(s.Terms.Terms)+1][len(s.Terms.Terms)].Op != 77 {
			t.Fatalf("Check changes what it is given: %s, but it was %s", show(s), before)
		}
		for _, l := range lists(s) {
			if !isSpare(l, 77) {
				t.Fatalf("Check writes in spare room: %v", l[:cap(l)])
			}
		}
		if err := system.Check(s); err != first {
			t.Fatalf("Check of %s: error %d, and then %d", before, first, err)
		}
	}
}

const long = whole + "(define-fun a () Bool (! (< k 18446744073709551616) :lemma true))(define-fun c () Int (* 36893488147419103232 k))(define-fun d () Bool (! b :lemma true))"

// Two answers share nothing.
func TestAnswersAreNewMemory(t *testing.T) {
	first, second := right(t, long), right(t, long)
	want := show(second)
	for _, what := range first.Terms.Terms {
		overwrite(what.Num.Abs, 5)
	}
	for _, l := range lists(first) {
		overwrite(l, -5)
	}
	overwrite(first.Terms.Terms, api.Term{Op: 77})
	overwrite(first.Terms.Syms, api.Sym{Name: "spoilt"})
	if show(second) != want {
		t.Fatalf("two answers share memory: %s", show(second))
	}
	reads(t, long, want)
}

// No two lists of an answer share memory, nor spare room.
func TestListsOfAnAnswerAreApart(t *testing.T) {
	s := right(t, long)
	want := show(s)
	for _, l := range lists(s) {
		overwrite(l[len(l):], -5)
	}
	for _, what := range s.Terms.Terms {
		overwrite(what.Num.Abs[len(what.Num.Abs):], 5)
	}
	if show(s) != want {
		t.Fatalf("lists share spare room: %s", show(s))
	}
	for i, l := range lists(s) {
		overwrite(l, -5)
		for j, other := range lists(right(t, long)) {
			if j > i && !slices.Equal(lists(s)[j], other) {
				t.Fatalf("lists number %d and %d share memory", i, j)
			}
		}
	}
}
