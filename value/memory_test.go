package value_test

import (
	"math/big"
	"slices"
	"testing"

	"elenchus/api"
	"elenchus/value"
)

func meantAll(l []api.Int) []*big.Int {
	var out []*big.Int
	for _, v := range l {
		out = append(out, meant(v))
	}
	return out
}

// roomy is a list with room to spare, in which nothing may be written.
func roomy[T any](l []T, spare T) []T {
	return append(slices.Clone(l), spare, spare, spare, spare)[:len(l)]
}

// overwrite fills a list and its spare room.
func overwrite[T any](l []T, v T) {
	l = l[:cap(l)]
	for i := range l {
		l[i] = v
	}
}

func roomyInt(v api.Int) api.Int {
	return api.Int{Neg: v.Neg, Abs: roomy(v.Abs, 55)}
}

func roomyInts(l []api.Int) []api.Int {
	out := roomy(l, of(66))
	for i, v := range l {
		out[i] = roomyInt(v)
	}
	return out
}

func roomyTable(t api.Table) api.Table {
	out := api.Table{Rows: roomy(t.Rows, row(of(77), of(78))), Else: roomyInt(t.Else)}
	for i, line := range t.Rows {
		out.Rows[i] = api.Row{Args: roomyInts(line.Args), Val: roomyInt(line.Val)}
	}
	return out
}

func roomyModel(m api.Model) api.Model {
	out := api.Model{Tables: roomy(m.Tables, constant(of(88)))}
	for i, t := range m.Tables {
		out.Tables[i] = roomyTable(t)
	}
	return out
}

func roomyRows(r api.Terms) api.Terms {
	out := api.Terms{Syms: roomy(r.Syms, named("spare", 1, 1)), Terms: roomy(r.Terms, term(99))}
	for i, t := range r.Terms {
		out.Terms[i].Args = roomy(t.Args, 55)
		out.Terms[i].Num = roomyInt(t.Num)
	}
	return out
}

// withSpare is a list with its spare room.
func withSpare[T any](l []T) []T {
	return l[:cap(l)]
}

// sameInt asks whether nothing of a number, nor of its spare room, is changed.
func sameInt(a, b api.Int) bool {
	return a.Neg == b.Neg && len(a.Abs) == len(b.Abs) && slices.Equal(withSpare(a.Abs), withSpare(b.Abs))
}

func sameInts(a, b []api.Int) bool {
	return len(a) == len(b) && slices.EqualFunc(withSpare(a), withSpare(b), sameInt)
}

func sameTable(a, b api.Table) bool {
	sameRow := func(x, y api.Row) bool { return sameInts(x.Args, y.Args) && sameInt(x.Val, y.Val) }
	return len(a.Rows) == len(b.Rows) && slices.EqualFunc(withSpare(a.Rows), withSpare(b.Rows), sameRow) && sameInt(a.Else, b.Else)
}

func sameModel(a, b api.Model) bool {
	return len(a.Tables) == len(b.Tables) && slices.EqualFunc(withSpare(a.Tables), withSpare(b.Tables), sameTable)
}

func sameRows(a, b api.Terms) bool {
	sameTerm := func(x, y api.Term) bool {
		return x.Op == y.Op && x.Sym == y.Sym && len(x.Args) == len(y.Args) && slices.Equal(withSpare(x.Args), withSpare(y.Args)) && sameInt(x.Num, y.Num)
	}
	return len(a.Syms) == len(b.Syms) && slices.Equal(withSpare(a.Syms), withSpare(b.Syms)) && len(a.Terms) == len(b.Terms) && slices.EqualFunc(withSpare(a.Terms), withSpare(b.Terms), sameTerm)
}

// exemplar are a table, and what it is asked of, with numbers in forms in which they aren't told.
func exemplar() (api.Table, []api.Int) {
	rows := []api.Row{row(of(7, 8, 0), of(1), of(2, 0)), row(of(9, 0), of(1, 0), below(0, 0)), row(below(5), of(1))}
	return api.Table{Rows: rows, Else: below(6, 1, 0, 0)}, []api.Int{of(1, 0, 0), of(2)}
}

func TestTellChangesNothing(t *testing.T) {
	table, args := exemplar()
	for _, asked := range [][]api.Int{args, {of(1), of(0)}, {of(3, 0), of(2)}, {of(1)}, nil} {
		for _, sort := range []int{api.Bool, api.Whole} {
			s := named("f", 2, sort)
			by, args := roomyTable(table), roomyInts(asked)
			want := expectedTell(s, table, meantAll(asked))
			checkTold(t, s, by, args, want)
			checkTold(t, s, by, args, want)
			if !sameTable(by, roomyTable(table)) || !sameInts(args, roomyInts(asked)) {
				t.Fatalf("Tell changes what it is given: %v, %v", by, args)
			}
		}
	}
}

// What is told shares no memory with the table, nor with what is told another time.
func TestTellIsNewMemory(t *testing.T) {
	table, args := exemplar()
	f := named("f", 2, api.Whole)
	for _, asked := range [][]api.Int{args, {of(1), of(0)}, {of(3, 0), of(2)}, {of(1)}} {
		by, args := roomyTable(table), roomyInts(asked)
		first, second := value.Tell(f, by, args), value.Tell(f, by, args)
		overwrite(first.Abs, 77)
		if want := expectedTell(f, table, meantAll(asked)); !isTold(second, want) {
			t.Fatalf("what is told twice shares memory: %v", second)
		}
		if !sameTable(by, roomyTable(table)) || !sameInts(args, roomyInts(asked)) {
			t.Fatalf("what is told shares memory with what is given: %v, %v", by, args)
		}
	}
	p := named("p", 0, api.Bool)
	yes := value.Tell(p, constant(of(1)), nil)
	overwrite(yes.Abs, 77)
	checkTold(t, p, constant(of(1)), nil, truth(true))
	checkTold(t, p, constant(of(1)), nil, truth(true))
}

// exemplarRows have a term of each Op, and their values are numbers, or truths, of some words.
func exemplarRows() (api.Terms, api.Model) {
	syms := []api.Sym{named("p", 0, api.Bool), named("x", 0, api.Whole), named("f", 2, api.Whole)}
	terms := []api.Term{
		app(0), app(1), term(api.OpTrue), num(of(1, 2, 0)), term(api.OpNot, 0), term(api.OpAnd, 0, 2), term(api.OpOr, 0, 4),
		term(api.OpIff, 0, 2), term(api.OpIte, 0, 3, 1), term(api.OpIte, 0, 8, 1), term(api.OpIte, 4, 8, 1), term(api.OpIte, 4, 0, 2), term(api.OpEq, 1, 1),
		term(api.OpLe, 1, 3), term(api.OpAdd, 1, 3), mul(of(1, 0), 3), mul(below(1), 1), app(2, 1, 3), app(2, 3, 3), num(of(0, 0)), term(api.OpAdd, 19, 3),
		term(api.OpAdd, 3, 19), mul(of(2, 1, 0), 1), term(api.OpFalse), term(api.OpIte, 2, 17, 3), {Op: api.OpOr, Num: below(0), Args: []int{0, 23}},
	}
	f := api.Table{Rows: []api.Row{row(of(4, 4, 0), of(0, 5), of(1, 2))}, Else: below(6, 6, 0)}
	return api.Terms{Syms: syms, Terms: terms}, api.Model{Tables: []api.Table{constant(of(7)), constant(of(0, 5, 0)), f, constant(of(1))}}
}

func TestEvalChangesNothing(t *testing.T) {
	r, m := exemplarRows()
	rows, model := roomyRows(r), roomyModel(m)
	checkEval(t, rows, model)
	for n := -1; n <= len(r.Terms); n++ {
		value.Holds(rows, model, n)
	}
	value.Eval(rows, api.Model{Tables: model.Tables[:1]})
	if !sameRows(rows, roomyRows(r)) || !sameModel(model, roomyModel(m)) {
		t.Fatalf("Eval, or Holds, changes what it is given: %v, %v", rows, model)
	}
	faulty := roomyRows(api.Terms{Syms: r.Syms, Terms: append(slices.Clone(r.Terms), term(api.OpNot, 99))})
	if _, err := value.Eval(faulty, model); err != api.ErrArg {
		t.Fatalf("Eval of a part that is no term: %d", err)
	}
	if !sameRows(faulty, roomyRows(api.Terms{Syms: r.Syms, Terms: append(slices.Clone(r.Terms), term(api.OpNot, 99))})) {
		t.Fatalf("Eval changes what it refuses: %v", faulty)
	}
}

// Values share no memory with what is given, nor with those of another call.
func TestValuesAreNewMemory(t *testing.T) {
	r, m := exemplarRows()
	rows, model := roomyRows(r), roomyModel(m)
	first, second := eval(t, rows, model), eval(t, rows, model)
	for _, v := range first {
		overwrite(v.Abs, 77)
	}
	overwrite(first, of(78))
	if !sameRows(rows, roomyRows(r)) || !sameModel(model, roomyModel(m)) {
		t.Fatalf("values share memory with what is given: %v, %v", rows, model)
	}
	for n, v := range second {
		if !isTold(v, expected(r, m, n)) {
			t.Fatalf("values of two calls share memory: %v", second)
		}
	}
	checkEval(t, rows, model)
}

// No two values share memory, nor spare room.
func TestValuesHaveMemoryOfTheirOwn(t *testing.T) {
	r, m := exemplarRows()
	got := eval(t, r, m)
	check := func(from int) {
		t.Helper()
		for n := from; n < len(got); n++ {
			if !isTold(got[n], expected(r, m, n)) {
				t.Fatalf("values share memory: the number %d is %v", n, got[n])
			}
		}
	}
	for _, v := range got {
		overwrite(v.Abs[len(v.Abs):], 5)
	}
	check(0)
	for n, v := range got {
		overwrite(v.Abs, 5)
		check(n + 1)
	}
}
