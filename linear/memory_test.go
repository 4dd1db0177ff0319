package linear_test

import (
	"slices"
	"testing"

	"elenchus/api"
	"elenchus/linear"
)

// roomy is a list with room to spare, in which nothing may be written.
func roomy[T any](l []T, spare T) []T {
	return append(slices.Clone(l), spare, spare, spare, spare)[:len(l)]
}

// overwrite fills a list and its spare room.
func overwrite[T any](l []T, v T) {
	l = l[:cap(l)]
	for i := range l {
		l[i] = v
	}
}

// withSpare is a list with its spare room.
func withSpare[T any](l []T) []T {
	return l[:cap(l)]
}

func roomyInt(v api.Int) api.Int {
	return api.Int{Neg: v.Neg, Abs: roomy(v.Abs, 55)}
}

func roomyInts(l []api.Int) []api.Int {
	out := roomy(l, of(66))
	for i, v := range l {
		out[i] = roomyInt(v)
	}
	return out
}

func roomySum(l api.Linear) api.Linear {
	out := sum(roomyInt(l.Const))
	out.Parts = roomy(l.Parts, part(of(77), 78))
	for i, p := range l.Parts {
		out.Parts[i].Coef = roomyInt(p.Coef)
	}
	return out
}

func roomyRows(r api.Terms) api.Terms {
	out := api.Terms{Syms: roomy(r.Syms, named("spare", 1, 1)), Terms: roomy(r.Terms, term(99))}
	for i, t := range r.Terms {
		out.Terms[i].Args = roomy(t.Args, 55)
		out.Terms[i].Num = roomyInt(t.Num)
	}
	return out
}

// sameInt asks whether nothing of a number, nor of its spare room, is changed.
func sameInt(a, b api.Int) bool {
	return a.Neg == b.Neg && len(a.Abs) == len(b.Abs) && slices.Equal(withSpare(a.Abs), withSpare(b.Abs))
}

func sameInts(a, b []api.Int) bool {
	return len(a) == len(b) && slices.EqualFunc(withSpare(a), withSpare(b), sameInt)
}

func sameSum(a, b api.Linear) bool {
	samePart := func(x, y api.Part) bool { return x.Term == y.Term && sameInt(x.Coef, y.Coef) }
	return len(a.Parts) == len(b.Parts) && slices.EqualFunc(withSpare(a.Parts), withSpare(b.Parts), samePart) && sameInt(a.Const, b.Const)
}

func sameRows(a, b api.Terms) bool {
	sameTerm := func(x, y api.Term) bool {
		return x.Op == y.Op && x.Sym == y.Sym && len(x.Args) == len(y.Args) && slices.Equal(withSpare(x.Args), withSpare(y.Args)) && sameInt(x.Num, y.Num)
	}
	return len(a.Syms) == len(b.Syms) && slices.Equal(withSpare(a.Syms), withSpare(b.Syms)) && len(a.Terms) == len(b.Terms) && slices.EqualFunc(withSpare(a.Terms), withSpare(b.Terms), sameTerm)
}

// wipe overwrites all memory of a sum.
func wipe(l api.Linear) {
	for _, p := range l.Parts {
		overwrite(p.Coef.Abs, 79)
	}
	overwrite(l.Const.Abs, 79)
	overwrite(l.Parts, part(of(80), 81))
}

// exemplarRows have a term of each Op, whose sums have parts and Const of one and more words, and terms whose
// sum is another one's: taken once, beside nothing, beside a number that is 0.
func exemplarRows() api.Terms {
	terms := []api.Term{
		app(0), app(1), term(api.OpTrue), num(of(1, 2, 0)), term(api.OpNot, 0), term(api.OpAnd, 0, 2), term(api.OpOr, 0, 4), term(api.OpFalse),
		term(api.OpIff, 0, 2), term(api.OpIte, 0, 3, 1), term(api.OpIte, 0, 2, 7), term(api.OpEq, 1, 1), term(api.OpLe, 1, 3), app(2, 1, 3), num(of(0, 0)),
		term(api.OpAdd, 1, 3), term(api.OpAdd, 15, 14), term(api.OpAdd, 14, 15), mul(of(1, 0), 15), mul(of(5, 6, 0), 15), mul(below(1), 16), mul(below(0), 15),
		term(api.OpAdd, 19, 20, 13, 9), term(api.OpAdd, 14, 14), mul(of(1), 22), term(api.OpAdd, 1, 14), mul(of(1), 3), term(api.OpAdd, 15, 20),
	}
	syms := []api.Sym{named("p", 0, api.Bool), named("x", 0, api.Whole), named("f", 2, api.Whole)}
	return api.Terms{Syms: syms, Terms: terms}
}

// exemplarLists are lists of parts with numbers in forms in which they aren't told.
func exemplarLists() []api.Linear {
	return []api.Linear{
		{}, sum(of(4, 0)), sum(below(0, 0), part(of(6, 3, 0), 1), part(below(9), 2)), sum(of(7, 1), part(of(4), 0), part(of(6, 0), 3)),
		sum(below(5, 2, 0), part(of(3), 2), part(of(0), 7), part(below(3, 0), 2), part(of(2, 8), 1)), sum(of(3), part(below(1, 0), 4)),
	}
}

func TestOfChangesNothing(t *testing.T) {
	r := exemplarRows()
	rows := roomyRows(r)
	checkAll(t, rows)
	for n := -1; n <= len(r.Terms); n++ {
		linear.Of(rows, n)
	}
	if !sameRows(rows, roomyRows(r)) {
		t.Fatalf("Of, or All, changes what it is given: %v", rows)
	}
	bad := api.Terms{Syms: r.Syms, Terms: append(slices.Clone(r.Terms), term(api.OpAdd, 99, 1))}
	rows = roomyRows(bad)
	if _, err := linear.All(rows); err != api.ErrArg || !sameRows(rows, roomyRows(bad)) {
		t.Fatalf("All of faulty rows: error %d, %v", err, rows)
	}
}

// Sums share no memory with rows, nor with what is told another time.
func TestSumsOfTermsAreNewMemory(t *testing.T) {
	r := exemplarRows()
	rows := roomyRows(r)
	first, _ := linear.All(rows)
	second, _ := linear.All(rows)
	for _, l := range first {
		wipe(l)
	}
	overwrite(first, smallSum(83))
	checkTermSums(t, r, second, 0)
	for n := range r.Terms {
		got, _ := linear.Of(rows, n)
		wipe(got)
	}
	checkTermSums(t, r, second, 0)
	if !sameRows(rows, roomyRows(r)) {
		t.Fatalf("sums share memory with rows: %v", rows)
	}
	checkAll(t, rows)
}

// checkTermSums fails unless all sums from one on are as the document asks.
func checkTermSums(t *testing.T, r api.Terms, all []api.Linear, from int) {
	t.Helper()
	sorts := sortsOf(t, r)
	for n := from; n < len(all); n++ {
		if sorts[n] == api.Whole && !expectedOf(r, n).isSum(all[n]) || sorts[n] == api.Bool && !isNoSum(all[n]) {
			t.Fatalf("sums share memory: the number %d is %v", n, all[n])
		}
	}
}

// lists are all lists of numbers of a sum.
func lists(l api.Linear) []api.Nat {
	out := []api.Nat{l.Const.Abs}
	for _, p := range l.Parts {
		out = append(out, p.Coef.Abs)
	}
	return out
}

// No two lists of what All answers share memory, nor spare room.
func TestSumsOfAllHaveMemoryOfTheirOwn(t *testing.T) {
	r := exemplarRows()
	all, _ := linear.All(r)
	for _, l := range all {
		for _, n := range lists(l) {
			overwrite(n[len(n):], 5)
		}
		overwrite(l.Parts[len(l.Parts):], part(of(5), 6))
	}
	checkTermSums(t, r, all, 0)
	for n, l := range all {
		wipe(l)
		checkTermSums(t, r, all, n+1)
	}
}

// checkOwnLists fails if two lists of a sum, or of a sum and a number, share memory.
func checkOwnLists(t *testing.T, l api.Linear, more ...api.Nat) {
	t.Helper()
	all := append(lists(l), more...)
	for i, n := range all {
		overwrite(n, uint64(i+100))
	}
	for i, n := range all {
		if slices.ContainsFunc(withSpare(n), func(w uint64) bool { return w != uint64(i+100) }) {
			t.Fatalf("two lists of one answer share memory: %v", all)
		}
	}
}

func TestListsOfOneSumAreTheirOwn(t *testing.T) {
	r := exemplarRows()
	for n := range r.Terms {
		l, _ := linear.Of(r, n)
		checkOwnLists(t, l)
	}
	for _, a := range exemplarLists() {
		for _, b := range exemplarLists() {
			checkOwnLists(t, linear.Add(a, b))
		}
		for _, k := range []api.Int{of(1), of(1, 0), below(1), of(0), of(3, 4)} {
			checkOwnLists(t, linear.Scale(a, k))
		}
		l, k, _ := linear.Tight(a)
		checkOwnLists(t, l, k.Abs)
	}
}

// call is a call of lists of parts; what it answers is a sum, a number, both or neither.
type call struct {
	name string
	make func(a, b api.Linear, k api.Int, values []api.Int) (api.Linear, api.Int)
}

func calls() []call {
	return []call{
		{"Add", func(a, b api.Linear, _ api.Int, _ []api.Int) (api.Linear, api.Int) {
			return linear.Add(a, b), api.Int{}
		}},
		{"Add of one", func(a, _ api.Linear, _ api.Int, _ []api.Int) (api.Linear, api.Int) {
			return linear.Add(a, a), api.Int{}
		}},
		{"Scale", func(a, _ api.Linear, k api.Int, _ []api.Int) (api.Linear, api.Int) {
			return linear.Scale(a, k), api.Int{}
		}},
		{"Value", func(a, _ api.Linear, _ api.Int, values []api.Int) (api.Linear, api.Int) {
			v, _ := linear.Value(a, values)
			return api.Linear{}, v
		}},
		{"Tight", func(a, _ api.Linear, _ api.Int, _ []api.Int) (api.Linear, api.Int) {
			l, k, _ := linear.Tight(a)
			return l, k
		}},
		{"Is", func(a, _ api.Linear, _ api.Int, _ []api.Int) (api.Linear, api.Int) {
			linear.Is(a)
			return api.Linear{}, api.Int{}
		}},
	}
}

// What is handed in stays as it is, and shares no memory with what is answered, nor do two answers.
func TestCallsLeaveWhatIsHandedIn(t *testing.T) {
	values := []api.Int{of(3, 0), of(1), below(0), of(2, 2, 0), of(5), of(6), of(7), of(8)}
	for _, c := range calls() {
		for _, a := range exemplarLists() {
			for _, b := range exemplarLists() {
				for _, k := range []api.Int{of(1), of(1, 0), below(2, 0), of(0, 0)} {
					checkCall(t, c, a, b, k, values)
				}
			}
		}
	}
}

func checkCall(t *testing.T, c call, a, b api.Linear, k api.Int, values []api.Int) {
	t.Helper()
	x, y, times, by := roomySum(a), roomySum(b), roomyInt(k), roomyInts(values)
	l, v := c.make(x, y, times, by)
	again, vAgain := c.make(x, y, times, by)
	want, wantV := accountOf(again), meant(vAgain)
	if !want.isSum(l) || !isTold(v, wantV) {
		t.Fatalf("%s of %v and %v: first %v, %v, then %v, %v", c.name, a, b, l, v, again, vAgain)
	}
	wipe(l)
	overwrite(v.Abs, 79)
	if !want.isSum(again) || !isTold(vAgain, wantV) {
		t.Fatalf("%s of %v and %v: two answers share memory: %v, %v", c.name, a, b, again, vAgain)
	}
	if !sameSum(x, roomySum(a)) || !sameSum(y, roomySum(b)) || !sameInt(times, roomyInt(k)) || !sameInts(by, roomyInts(values)) {
		t.Fatalf("%s changes what it is given, or shares memory with it: %v, %v, %v, %v", c.name, x, y, times, by)
	}
}
