package atoms_test

import (
	"slices"
	"testing"

	"elenchus/api"
	"elenchus/atoms"
)

// roomy is a list with room to spare, in which nothing may be written.
func roomy[T any](l []T, spare T) []T {
	return append(slices.Clone(l), spare, spare, spare, spare)[:len(l)]
}

// overwrite fills a list and its spare room.
func overwrite[T any](l []T, v T) {
	l = l[:cap(l)]
	for i := range l {
		l[i] = v
	}
}

// withSpare is a list with its spare room.
func withSpare[T any](l []T) []T {
	return l[:cap(l)]
}

func roomyInt(v api.Int) api.Int {
	return api.Int{Neg: v.Neg, Abs: roomy(v.Abs, 55)}
}

func roomySum(l api.Linear) api.Linear {
	out := api.Linear{Parts: roomy(l.Parts, api.Part{Coef: small(77), Term: 78}), Const: roomyInt(l.Const)}
	for i, p := range l.Parts {
		out.Parts[i].Coef = roomyInt(p.Coef)
	}
	return out
}

// sameInt asks whether nothing of a number, nor of its spare room, is changed.
func sameInt(a, b api.Int) bool {
	return a.Neg == b.Neg && len(a.Abs) == len(b.Abs) && slices.Equal(withSpare(a.Abs), withSpare(b.Abs))
}

func sameSum(a, b api.Linear) bool {
	samePart := func(x, y api.Part) bool { return x.Term == y.Term && sameInt(x.Coef, y.Coef) }
	return len(a.Parts) == len(b.Parts) && slices.EqualFunc(withSpare(a.Parts), withSpare(b.Parts), samePart) && sameInt(a.Const, b.Const)
}

// wipe overwrites all memory of a sum.
func wipe(l api.Linear) {
	for _, p := range l.Parts {
		overwrite(p.Coef.Abs, 79)
	}
	overwrite(l.Const.Abs, 79)
	overwrite(l.Parts, api.Part{Coef: small(80), Term: 81})
}

// exemplars are sums of both sides, with and without a common divisor, small and great, and some that are
// refused or fixed; their numbers are in the forms in which numbers are told, and in others.
func exemplars(t *testing.T) []api.Linear {
	t.Helper()
	list := sums(t, "2*0 -6 | -1*0 4 | 1*0 | 1*0 2*1 W1.1 | -1*0 -2*1 W1.3 | W1.0*0 -W3.0*3 -W9.1 | -W1.1*2 W5.2*3 | -W1.1*2 W5.2*3 W1.0.0 | 4*4 -W7.1 | 0 | 3 | -W1.0 | 0*0 2*1 W1.0 | 1*3 1*2 7")
	for _, l := range slices.Clone(list) {
		raw := api.Linear{Const: api.Int{Neg: l.Const.Neg, Abs: append(slices.Clone(l.Const.Abs), 0, 0)}}
		for _, p := range l.Parts {
			raw.Parts = append(raw.Parts, api.Part{Coef: api.Int{Neg: p.Coef.Neg, Abs: append(slices.Clone(p.Coef.Abs), 0)}, Term: p.Term})
		}
		list = append(list, raw)
	}
	return list
}

// full is a table that was asked all exemplars, and what it has, told by the other table.
func full(t *testing.T) (*atoms.Table, *other) {
	t.Helper()
	x, o := atoms.New(), &other{}
	for _, l := range exemplars(t) {
		checkOther(t, x, o, l)
	}
	return x, o
}

// checkAll fails unless a table has just what the other one has, and all exemplars are found.
func checkAll(t *testing.T, x *atoms.Table, o *other) {
	t.Helper()
	rows, list := len(o.rows), len(o.atoms)
	for _, l := range exemplars(t) {
		checkOther(t, x, o, l)
	}
	if len(o.rows) != rows || len(o.atoms) != list {
		t.Fatalf("exemplars were asked for the first time: %v, %v", o.rows, o.atoms)
	}
}

func TestWhatIsHandedInStays(t *testing.T) {
	x, y := atoms.New(), atoms.New()
	for _, l := range exemplars(t) {
		given := roomySum(l)
		for range 2 {
			x.Ask(given)
		}
		(*atoms.Table)(nil).Ask(given)
		if !sameSum(given, roomySum(l)) {
			t.Fatalf("Ask changes what it is given: %v, but it was %v", given, l)
		}
		y.Ask(l)
	}
	holds(t, x, writtenRows(y.Rows()), writtenAtoms(y.List()))
}

// What was handed in may be overwritten: rows and atoms stay.
func TestWhatIsHandedInIsNotKept(t *testing.T) {
	x, o := atoms.New(), &other{}
	for _, l := range exemplars(t) {
		given := roomySum(l)
		checkOther(t, x, o, given)
		wipe(given)
	}
	checkAll(t, x, o)
}

// One sum's memory may be asked over and over, with other numbers in it.
func TestMemoryThatIsAskedAgain(t *testing.T) {
	x := atoms.New()
	l := sum(t, "2*0 3*1 -W1.5")
	asks(t, x, l, 0, true)
	l.Const.Abs[0] = 6
	asks(t, x, l, 1, true)
	l.Parts[1].Coef.Abs[0] = 5
	asks(t, x, l, 2, true)
	l.Parts[1].Term = 4
	asks(t, x, l, 3, true)
	l.Parts[0].Coef.Neg = true
	asks(t, x, l, 4, false)
	holds(t, x, "2*0 3*1 | 2*0 5*1 | 2*0 5*4 | 2*0 -5*4", "0: 18446744073709551621 | 0: 18446744073709551622 | 1: 18446744073709551622 | 2: 18446744073709551622 | 3: -18446744073709551623")
	asks(t, x, sum(t, "2*0 3*1 -W1.5"), 0, true)
}

// What was answered may be overwritten: the table stays, and what it answered another time.
func TestWhatIsAnsweredIsNew(t *testing.T) {
	x, o := full(t)
	rows, list := x.Rows(), x.List()
	keptRows, keptList := x.Rows(), x.List()
	for _, l := range rows {
		wipe(l)
	}
	overwrite(rows, sum(t, "83*84 85"))
	for _, a := range list {
		overwrite(a.Val.Abs, 86)
	}
	overwrite(list, api.Atom{Row: 87, Val: small(88)})
	checkAll(t, x, o)
	if want := writtenRows(x.Rows()); writtenRows(keptRows) != want {
		t.Fatalf("rows that were answered twice share memory: %q, but they were %q", writtenRows(keptRows), want)
	}
	if want := writtenAtoms(x.List()); writtenAtoms(keptList) != want {
		t.Fatalf("atoms that were answered twice share memory: %q, but they were %q", writtenAtoms(keptList), want)
	}
}

// What was answered stays as it was, whatever is asked behind it.
func TestWhatWasAnsweredStays(t *testing.T) {
	x, o := full(t)
	rows, list := x.Rows(), x.List()
	writtenThen, listThen := writtenRows(rows), writtenAtoms(list)
	for _, l := range sums(t, "7*0 1*1 | 7*0 2*1 | 1*0 -99 | -1*0 2*1 W1.0 | 5*7") {
		checkOther(t, x, o, l)
	}
	if writtenRows(rows) != writtenThen || writtenAtoms(list) != listThen {
		t.Fatalf("what was answered changes: %q, %q, but it was %q, %q", writtenRows(rows), writtenAtoms(list), writtenThen, listThen)
	}
	if len(x.Rows()) == len(rows) || len(x.List()) == len(list) {
		t.Fatal("nothing was asked for the first time")
	}
}

// No two lists of an answer share memory, nor spare room.
func TestListsHaveMemoryOfTheirOwn(t *testing.T) {
	x, _ := full(t)
	rows, list := x.Rows(), x.List()
	fresh, freshList := x.Rows(), x.List()
	check := func(rowsFrom, partsFrom, listFrom int) {
		t.Helper()
		for n := rowsFrom; n < len(rows); n++ {
			from := 0
			if n == rowsFrom {
				from = partsFrom
			}
			if !slices.EqualFunc(rows[n].Parts[from:], fresh[n].Parts[from:], samePart) {
				t.Fatalf("lists of an answer share memory: the row %d is %v, not %v", n, rows[n], fresh[n])
			}
		}
		if writtenAtoms(list[listFrom:]) != writtenAtoms(freshList[listFrom:]) {
			t.Fatalf("lists of an answer share memory: the atoms are %v, not %v", list, freshList)
		}
	}
	spareRoom(rows, list)
	check(0, 0, 0)
	for n, l := range rows {
		for i, p := range l.Parts {
			overwrite(p.Coef.Abs, 79)
			check(n, i+1, 0)
		}
		overwrite(l.Parts, api.Part{Coef: small(80), Term: 81})
		check(n+1, 0, 0)
	}
	for n, a := range list {
		overwrite(a.Val.Abs, 79)
		check(len(rows), 0, n+1)
	}
}

func samePart(a, b api.Part) bool {
	return a.Term == b.Term && a.Coef.Neg == b.Coef.Neg && slices.Equal(a.Coef.Abs, b.Coef.Abs)
}

// spareRoom overwrites the spare room of all lists of an answer.
func spareRoom(rows []api.Linear, list []api.Atom) {
	for _, l := range rows {
		for _, p := range l.Parts {
			overwrite(p.Coef.Abs[len(p.Coef.Abs):], 5)
		}
		overwrite(l.Parts[len(l.Parts):], api.Part{Coef: small(6), Term: 7})
		overwrite(l.Const.Abs[len(l.Const.Abs):], 5)
	}
	overwrite(rows[len(rows):], api.Linear{Const: small(8)})
	for _, a := range list {
		overwrite(a.Val.Abs[len(a.Val.Abs):], 5)
	}
	overwrite(list[len(list):], api.Atom{Row: 9})
}

// A table that is asked another one's rows has its own.
func TestTablesShareNothing(t *testing.T) {
	x, o := full(t)
	y := atoms.New()
	for n, l := range x.Rows() {
		asks(t, y, l, n, true)
	}
	rows := writtenRows(y.Rows())
	if want := writtenRows(x.Rows()); rows != want {
		t.Fatalf("a table asked another one's rows has %q, not %q", rows, want)
	}
	asks(t, y, sum(t, "1*0 1*1 1*2"), len(x.Rows()), true)
	checkAll(t, x, o)
	for _, l := range x.Rows() {
		wipe(l)
	}
	holds(t, y, rows+" | 1*0 1*1 1*2", writtenAtoms(y.List()))
}
