package clauses_test

import (
	"slices"
	"testing"

	"elenchus/api"
	"elenchus/clauses"
)

// roomy is a list with room to spare, in which nothing may be written.
func roomy[T any](l []T, spare T) []T {
	return append(slices.Clone(l), spare, spare, spare, spare)[:len(l)]
}

// withSpare is a list with its spare room.
func withSpare[T any](l []T) []T {
	return l[:cap(l)]
}

// overwrite fills a list and its spare room.
func overwrite[T any](l []T, v T) {
	l = withSpare(l)
	for i := range l {
		l[i] = v
	}
}

// sameList asks whether nothing of a list, nor of its spare room, is changed.
func sameList[T comparable](a, b []T) bool {
	return len(a) == len(b) && slices.Equal(withSpare(a), withSpare(b))
}

func roomyInt(v api.Int) api.Int {
	return api.Int{Neg: v.Neg, Abs: roomy(v.Abs, 55)}
}

func sameInt(a, b api.Int) bool {
	return a.Neg == b.Neg && sameList(a.Abs, b.Abs)
}

func roomyRows(r api.Terms) api.Terms {
	out := api.Terms{Syms: roomy(r.Syms, api.Sym{Name: "spare", Sort: 1}), Terms: roomy(r.Terms, api.Term{Op: 99})}
	for i, t := range r.Terms {
		out.Terms[i].Args = roomy(t.Args, 55)
		out.Terms[i].Num = roomyInt(t.Num)
	}
	return out
}

func sameRows(a, b api.Terms) bool {
	sameTerm := func(x, y api.Term) bool {
		return x.Op == y.Op && x.Sym == y.Sym && sameList(x.Args, y.Args) && sameInt(x.Num, y.Num)
	}
	return sameList(a.Syms, b.Syms) && len(a.Terms) == len(b.Terms) && slices.EqualFunc(withSpare(a.Terms), withSpare(b.Terms), sameTerm)
}

func roomySum(l api.Linear) api.Linear {
	out := api.Linear{Parts: roomy(l.Parts, api.Part{Coef: small(77), Term: 78}), Const: roomyInt(l.Const)}
	for i, p := range l.Parts {
		out.Parts[i].Coef = roomyInt(p.Coef)
	}
	return out
}

func sameSum(a, b api.Linear) bool {
	samePart := func(x, y api.Part) bool { return x.Term == y.Term && sameInt(x.Coef, y.Coef) }
	return len(a.Parts) == len(b.Parts) && slices.EqualFunc(withSpare(a.Parts), withSpare(b.Parts), samePart) && sameInt(a.Const, b.Const)
}

func wipeRows(r api.Terms) {
	for _, t := range r.Terms {
		overwrite(t.Args, 88)
		overwrite(t.Num.Abs, 99)
	}
	overwrite(r.Terms, api.Term{Op: 77})
	overwrite(r.Syms, api.Sym{Name: "other"})
}

func wipeSum(l api.Linear) {
	for _, p := range l.Parts {
		overwrite(p.Coef.Abs, 79)
	}
	overwrite(l.Const.Abs, 79)
	overwrite(l.Parts, api.Part{Coef: small(80), Term: 81})
}

// wipe overwrites all that was told.
func wipe(d api.Coded) {
	for _, clause := range d.Clauses {
		overwrite(clause, 82)
	}
	overwrite(d.Clauses, []int{83})
	for _, m := range d.Means {
		overwrite(m.Atom.Val.Abs, 84)
	}
	overwrite(d.Means, api.Mean{Term: 85})
	for _, l := range d.Rows {
		wipeSum(l)
	}
	overwrite(d.Rows, api.Linear{Const: small(86)})
	overwrite(d.Roots, 87)
}

// exemplar has a term of each Op, and its numbers are in forms in which they aren't told.
func exemplar(t *testing.T) api.Terms {
	t.Helper()
	r := rows(t, "true | false | p | q | not 2 | and 0 2 3 | or 1 3 2 | iff 2 3 | ite 2 3 4 | x | y | #18446744073709551617 | #-5 | eq 9 10 | le 9 11 | add 11 9 12 | ite 2 9 11 | *36893488147419103232 9 | *3 17 | ite 14 16 18 | le 19 15 | eq 16 10 | f 19 | g 9 12 | le 22 17 | and 2 20 21 23 24")
	for i := range r.Terms {
		r.Terms[i].Num.Abs = append(r.Terms[i].Num.Abs, 0, 0)
	}
	return r
}

func exemplarTerms() []int {
	return []int{0, 1, 2, 4, 5, 6, 7, 8, 13, 14, 20, 21, 23, 24, 25}
}

func exemplarSums(t *testing.T) []api.Linear {
	t.Helper()
	list := sums(t, "2*9 -6 | -1*9 4 | 1*16 2*19 W1.1 | -1*10 -2*22 W1.3 | W1.0*9 -W3.0*10 -W9.1 | 0 | 3 | -W1.0 | 0*9 2*10 | 1*2 | 1*9 1*11 W1.0")
	for _, l := range slices.Clone(list) {
		raw := api.Linear{Const: api.Int{Neg: l.Const.Neg, Abs: append(slices.Clone(l.Const.Abs), 0, 0)}}
		for _, p := range l.Parts {
			raw.Parts = append(raw.Parts, api.Part{Coef: api.Int{Neg: p.Coef.Neg, Abs: append(slices.Clone(p.Coef.Abs), 0)}, Term: p.Term})
		}
		list = append(list, raw)
	}
	return list
}

// full is a coder of the exemplar that was asked all of it.
func full(t *testing.T) *clauses.Coder {
	t.Helper()
	c := coder(t, exemplar(t))
	for _, n := range exemplarTerms() {
		lit(t, c, n)
	}
	for _, l := range exemplarSums(t) {
		c.Most(l)
	}
	return c
}

func TestExemplar(t *testing.T) {
	a := ask(t, exemplar(t), exemplarTerms()...)
	for _, l := range exemplarSums(t)[:5] {
		a.most(l)
	}
	checkSame(t, full(t).Coded(), a.coded())
	d := a.coded()
	grid(func(values ...int64) { a.checkModel(d, constants(values...)) })
}

func TestWhatIsHandedInStays(t *testing.T) {
	r := exemplar(t)
	given := roomyRows(r)
	c := coder(t, given)
	for _, n := range exemplarTerms() {
		lit(t, c, n)
	}
	for _, l := range exemplarSums(t) {
		asked := roomySum(l)
		c.Most(asked)
		(*clauses.Coder)(nil).Most(asked)
		if !sameSum(asked, roomySum(l)) {
			t.Fatalf("Most changes what it is given: %v, but it was %v", asked, l)
		}
	}
	c.Coded()
	if !sameRows(given, roomyRows(r)) {
		t.Fatalf("rows are changed: %v", given)
	}
	bad := roomyRows(api.Terms{Syms: r.Syms, Terms: append(slices.Clone(r.Terms), api.Term{Op: api.OpNot, Args: []int{99}})})
	if got, err := clauses.New(bad); got != nil || err != api.ErrArg {
		t.Fatalf("New: %v, error %d", got, err)
	}
	if !sameRows(bad, roomyRows(api.Terms{Syms: r.Syms, Terms: append(slices.Clone(r.Terms), api.Term{Op: api.OpNot, Args: []int{99}})})) {
		t.Fatalf("New changes what it refuses: %v", bad)
	}
}

// Rows and sums that were handed in may be overwritten: what is asked behind it is answered as ever.
func TestWhatIsHandedInIsNotKept(t *testing.T) {
	given := roomyRows(exemplar(t))
	c := coder(t, given)
	wipeRows(given)
	for _, n := range exemplarTerms() {
		lit(t, c, n)
	}
	for _, l := range exemplarSums(t) {
		asked := roomySum(l)
		c.Most(asked)
		wipeSum(asked)
	}
	checkSame(t, full(t).Coded(), c.Coded())
}

// One sum's memory may be asked over and over, with other numbers in it.
func TestMemoryThatIsAskedAgain(t *testing.T) {
	a := ask(t, rows(t, "x | y | f 0"))
	l := sum(t, "2*0 3*1 -W1.5")
	a.most(roomySum(l))
	for _, change := range []func(){func() { l.Const.Abs[0] = 6 }, func() { l.Parts[1].Coef.Abs[0] = 5 }, func() { l.Parts[1].Term = 2 }, func() { l.Parts[0].Coef.Neg = true }} {
		change()
		n := most(t, a.c, l)
		if m := a.most(roomySum(l)); m != n {
			t.Fatalf("Most of %q: %d, and then %d", writtenSum(l), n, m)
		}
	}
	a.check()
}

// What was told may be overwritten: the coder stays, and what it told another time.
func TestWhatIsToldIsNew(t *testing.T) {
	c := full(t)
	first, second := c.Coded(), c.Coded()
	wipe(first)
	checkSame(t, full(t).Coded(), second)
	checkSame(t, second, c.Coded())
	for _, n := range exemplarTerms() {
		lit(t, c, n)
	}
	for _, l := range exemplarSums(t) {
		c.Most(l)
	}
	if now := c.Coded(); written(now) != written(second) {
		t.Fatalf("what was told is kept: %s, but it was %s", written(now), written(second))
	}
}

// What was told stays as it was, whatever is asked behind it.
func TestWhatWasToldStays(t *testing.T) {
	c := coder(t, exemplar(t))
	var ahead []api.Coded
	var texts []string
	for _, n := range exemplarTerms() {
		lit(t, c, n)
		d := c.Coded()
		ahead, texts = append(ahead, d), append(texts, written(d))
	}
	most(t, c, sum(t, "7*9 -3*10 1"))
	for i, d := range ahead {
		if written(d) != texts[i] || len(d.Roots) != i+1 {
			t.Fatalf("what was told changes: %s, roots %v, but it was %s", written(d), d.Roots, texts[i])
		}
	}
}

// No two lists of what is told share memory, nor spare room.
func TestListsHaveMemoryOfTheirOwn(t *testing.T) {
	c := full(t)
	d, fresh := c.Coded(), c.Coded()
	for _, clause := range d.Clauses {
		overwrite(clause[len(clause):], 5)
	}
	for _, m := range d.Means {
		overwrite(m.Atom.Val.Abs[len(m.Atom.Val.Abs):], 5)
	}
	for _, l := range d.Rows {
		for _, p := range l.Parts {
			overwrite(p.Coef.Abs[len(p.Coef.Abs):], 5)
		}
		overwrite(l.Parts[len(l.Parts):], api.Part{Term: 6})
		overwrite(l.Const.Abs[len(l.Const.Abs):], 5)
	}
	overwrite(d.Clauses[len(d.Clauses):], []int{7})
	overwrite(d.Means[len(d.Means):], api.Mean{Term: 7})
	overwrite(d.Rows[len(d.Rows):], api.Linear{Const: small(8)})
	overwrite(d.Roots[len(d.Roots):], 9)
	checkSame(t, fresh, d)
	overwrite(d.Roots, 9)
	for n, clause := range d.Clauses {
		overwrite(clause, 82)
		d.Clauses[n] = slices.Clone(fresh.Clauses[n])
		checkSameButRoots(t, fresh, d)
	}
	for n, m := range d.Means {
		overwrite(m.Atom.Val.Abs, 84)
		d.Means[n] = fresh.Means[n]
		checkSameButRoots(t, fresh, d)
	}
	for n, l := range d.Rows {
		for i, p := range l.Parts {
			overwrite(p.Coef.Abs, 79)
			l.Parts[i] = fresh.Rows[n].Parts[i]
			checkSameButRoots(t, fresh, d)
		}
		overwrite(l.Parts, api.Part{Coef: small(80), Term: 81})
		d.Rows[n] = fresh.Rows[n]
		checkSameButRoots(t, fresh, d)
	}
}

func checkSameButRoots(t *testing.T, a, b api.Coded) {
	t.Helper()
	if written(a) != written(b) {
		t.Fatalf("lists that are told share memory: %s, but it was %s", written(b), written(a))
	}
}

// A coder of another one's rows has its own.
func TestCodersShareNothing(t *testing.T) {
	r := roomyRows(exemplar(t))
	x, y := coder(t, r), coder(t, r)
	for _, n := range exemplarTerms() {
		lit(t, x, n)
		wipe(x.Coded())
	}
	if d := y.Coded(); d.Vars != 1 || len(d.Clauses) != 1 || len(d.Rows) != 0 || len(d.Roots) != 0 {
		t.Fatalf("a coder that was asked nothing has %s", written(d))
	}
	for _, l := range exemplarSums(t) {
		y.Most(l)
	}
	for _, l := range exemplarSums(t) {
		x.Most(l)
	}
	checkSame(t, full(t).Coded(), x.Coded())
}
