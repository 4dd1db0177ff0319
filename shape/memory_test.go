package shape_test

import (
	"slices"
	"testing"

	"elenchus/api"
	"elenchus/shape"
)

// roomy is a list with room to spare, in which nothing may be written.
func roomy[T any](l []T, spare T) []T {
	return append(slices.Clone(l), spare, spare, spare, spare)[:len(l)]
}

func roomyRows(r api.Terms) api.Terms {
	out := api.Terms{Syms: roomy(r.Syms, api.Sym{Name: "spare", Sort: 1}), Terms: roomy(r.Terms, api.Term{Op: 99})}
	for i, t := range r.Terms {
		out.Terms[i].Args = roomy(t.Args, 55)
		out.Terms[i].Num.Abs = roomy(t.Num.Abs, 66)
	}
	return out
}

// withSpare is a list with its spare room.
func withSpare[T any](l []T) []T {
	return l[:cap(l)]
}

// sameList asks whether nothing of a list, nor of its spare room, is changed.
func sameList[T comparable](a, b []T) bool {
	return len(a) == len(b) && slices.Equal(withSpare(a), withSpare(b))
}

func sameTerm(a, b api.Term) bool {
	return a.Op == b.Op && a.Sym == b.Sym && sameList(a.Args, b.Args) && a.Num.Neg == b.Num.Neg && sameList(a.Num.Abs, b.Num.Abs)
}

func sameRows(a, b api.Terms) bool {
	return sameList(a.Syms, b.Syms) && len(a.Terms) == len(b.Terms) && slices.EqualFunc(withSpare(a.Terms), withSpare(b.Terms), sameTerm)
}

// exemplar has a term of each Op and of each rule, and some numbers are in forms in which they aren't told.
func exemplar(t *testing.T) api.Terms {
	t.Helper()
	r := rows(t, "true | false | p | q | not 2 | and 0 2 3 | or 1 3 2 | iff 2 3 | ite 2 3 4 | x | y | #18446744073709551617 | #-5 | eq 9 10 | le 9 11 | add 11 9 12 | add 9 10 | *36893488147419103232 9 | *3 17 | *-18446744073709551616 11 | f 11 | g 9 12 | not 4 | and 2 4 | iff 1 2 | ite 2 1 0 | add 11 12 | #0 | *0 9 | *1 17 | add 27 9")
	for i := range r.Terms {
		r.Terms[i].Num.Abs = append(r.Terms[i].Num.Abs, 0, 0)
	}
	return r
}

func TestWhatIsHandedInStays(t *testing.T) {
	r := exemplar(t)
	given := roomyRows(r)
	for _, roots := range [][]int{nil, {0}, allOf(r), {-1}, {5, len(r.Terms)}} {
		asked := roomy(roots, 77)
		shape.Fold(given, asked)
		if !sameRows(given, roomyRows(r)) || !sameList(asked, roomy(roots, 77)) {
			t.Fatalf("Fold changes what it is given: %v, %v", given, asked)
		}
	}
	bad := with(r, api.Term{Op: api.OpNot, Args: []int{99}})
	given = roomyRows(bad)
	refused(t, given, []int{0}, api.ErrArg)
	if !sameRows(given, roomyRows(bad)) {
		t.Fatalf("Fold changes what it refuses: %v", given)
	}
}

// overwrite fills a list and its spare room.
func overwrite[T any](l []T, v T) {
	l = withSpare(l)
	for i := range l {
		l[i] = v
	}
}

// What is answered shares no memory with what is given, nor with what is answered another time.
func TestWhatIsAnsweredIsNew(t *testing.T) {
	r := exemplar(t)
	given, asked := roomyRows(r), roomy(allOf(r), 77)
	first, k := folded(t, given, asked)
	second, l := folded(t, given, asked)
	want, standIns := expected(r)
	for _, what := range first.Terms {
		overwrite(what.Args, 88)
		overwrite(what.Num.Abs, 99)
	}
	overwrite(first.Terms, api.Term{Op: 77})
	overwrite(first.Syms, api.Sym{Name: "other"})
	overwrite(k, 66)
	if !sameRows(given, roomyRows(r)) || !sameList(asked, roomy(allOf(r), 77)) {
		t.Fatalf("what is answered shares memory with what is given: %v, %v", given, asked)
	}
	if written(second) != written(want) || !slices.Equal(second.Syms, r.Syms) || !slices.Equal(l, standIns) {
		t.Fatalf("what is answered twice shares memory: %v, %v", second, l)
	}
	third, l := folded(t, given, asked)
	if written(third) != written(want) || !slices.Equal(l, standIns) {
		t.Fatalf("what was answered is kept: %v, %v", third, l)
	}
}

// What is given may be overwritten, and what was answered stays.
func TestWhatIsGivenIsNotKept(t *testing.T) {
	r := exemplar(t)
	given, asked := roomyRows(r), roomy(allOf(r), 77)
	got, k := folded(t, given, asked)
	want, standIns := expected(r)
	for _, what := range given.Terms {
		overwrite(what.Args, 88)
		overwrite(what.Num.Abs, 99)
	}
	overwrite(given.Terms, api.Term{Op: 77})
	overwrite(given.Syms, api.Sym{Name: "other"})
	overwrite(asked, 66)
	if written(got) != written(want) || !slices.Equal(got.Syms, symbols()) || !slices.Equal(k, standIns) {
		t.Fatalf("what is answered shares memory with what is given: %v, %v", got, k)
	}
}

// No two lists of an answer share memory, nor spare room.
func TestListsHaveMemoryOfTheirOwn(t *testing.T) {
	r := exemplar(t)
	got, k := folded(t, r, allOf(r))
	want, standIns := expected(r)
	check := func(from int) {
		t.Helper()
		for n := from; n < len(got.Terms); n++ {
			w := want.Terms[n]
			if !slices.Equal(got.Terms[n].Args, w.Args) || !slices.Equal(got.Terms[n].Num.Abs, w.Num.Abs) {
				t.Fatalf("lists of an answer share memory: the term %d is %v, not %v", n, got.Terms[n], w)
			}
		}
		if !slices.Equal(k, standIns) {
			t.Fatalf("the stand-ins share memory: %v, not %v", k, standIns)
		}
	}
	for _, what := range got.Terms {
		overwrite(what.Args[len(what.Args):], 5)
		overwrite(what.Num.Abs[len(what.Num.Abs):], 5)
	}
	check(0)
	for n, what := range got.Terms {
		overwrite(what.Args, 88)
		overwrite(what.Num.Abs, 99)
		check(n + 1)
	}
}
