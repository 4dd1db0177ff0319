package tables_test

import (
	"slices"
	"testing"

	"elenchus/api"
	"elenchus/tables"
)

// roomy is a list with room to spare, in which nothing may be written.
func roomy[T any](l []T, spare T) []T {
	return append(slices.Clone(l), spare, spare, spare, spare)[:len(l)]
}

// withSpare is a list with its spare room.
func withSpare[T any](l []T) []T {
	return l[:cap(l)]
}

// overwrite fills a list and its spare room.
func overwrite[T any](l []T, v T) {
	l = l[:cap(l)]
	for i := range l {
		l[i] = v
	}
}

func roomyInt(v api.Int) api.Int {
	return api.Int{Neg: v.Neg, Abs: roomy(v.Abs, 55)}
}

func roomyApps(l []api.App) []api.App {
	out := roomy(l, says(7, 77, 777))
	for n, a := range l {
		out[n].Val, out[n].Args = roomyInt(a.Val), roomy(a.Args, of(66, 0))
		for i, arg := range a.Args {
			out[n].Args[i] = roomyInt(arg)
		}
	}
	return out
}

// sameInt asks whether nothing of a number, nor of its spare room, is changed.
func sameInt(a, b api.Int) bool {
	return a.Neg == b.Neg && len(a.Abs) == len(b.Abs) && slices.Equal(withSpare(a.Abs), withSpare(b.Abs))
}

func sameApp(a, b api.App) bool {
	return a.Sym == b.Sym && sameInt(a.Val, b.Val) && len(a.Args) == len(b.Args) && slices.EqualFunc(withSpare(a.Args), withSpare(b.Args), sameInt)
}

func sameApps(a, b []api.App) bool {
	return len(a) == len(b) && slices.EqualFunc(withSpare(a), withSpare(b), sameApp)
}

// wipeApps overwrites all memory of what is said.
func wipeApps(l []api.App) {
	for _, a := range l {
		overwrite(a.Val.Abs, 88)
		for _, arg := range a.Args {
			overwrite(arg.Abs, 88)
		}
		overwrite(a.Args, below(88))
	}
	overwrite(l, says(88, 88))
}

// numberLists are all lists of words of a model, and argLists all lists of numbers.
func numberLists(m api.Model) []api.Nat {
	var out []api.Nat
	for _, t := range m.Tables {
		out = append(out, t.Else.Abs)
		for _, r := range t.Rows {
			out = append(out, r.Val.Abs)
			for _, arg := range r.Args {
				out = append(out, arg.Abs)
			}
		}
	}
	return out
}

func argLists(m api.Model) [][]api.Int {
	var out [][]api.Int
	for _, t := range m.Tables {
		for _, r := range t.Rows {
			out = append(out, r.Args)
		}
	}
	return out
}

// wipeModel overwrites all memory of a model.
func wipeModel(m api.Model) {
	for _, n := range numberLists(m) {
		overwrite(n, 99)
	}
	for _, l := range argLists(m) {
		overwrite(l, below(99))
	}
	for _, t := range m.Tables {
		overwrite(t.Rows, api.Row{})
	}
	overwrite(m.Tables, api.Table{Else: below(99)})
}

func copyModel(m api.Model) api.Model {
	ownInt := func(a api.Int) api.Int { return api.Int{Neg: a.Neg, Abs: slices.Clone(a.Abs)} }
	out := api.Model{}
	for _, t := range m.Tables {
		own := api.Table{Else: ownInt(t.Else)}
		for _, r := range t.Rows {
			row := api.Row{Val: ownInt(r.Val)}
			for _, arg := range r.Args {
				row.Args = append(row.Args, ownInt(arg))
			}
			own.Rows = append(own.Rows, row)
		}
		out.Tables = append(out.Tables, own)
	}
	return out
}

// exemplars are over symbols of no number, of one and of two; numbers share memory, and stand in forms in
// which they aren't told.
func exemplars() [][]api.App {
	n, twice := of(5, 6, 0), below(7, 0)
	shared := []api.Int{n, twice}
	return [][]api.App{
		nil, {says(0, 3)}, {say(0, n), say(0, n)}, {say(1, n, n), say(1, twice, twice), say(1, n, n)},
		{say(2, n, shared...), say(0, of(0, 1, 0)), say(2, n, shared...), say(2, twice, n, n), say(1, of(0), of(0, 0)), say(2, n, twice, twice)},
		{say(1, n, n), say(1, twice, n)}, {say(1, n)}, {say(3, n, n)},
	}
}

func exemplarSyms() []api.Sym {
	return []api.Sym{{Name: "x", Sort: api.Whole}, {Name: "f", Arity: 1, Sort: api.Bool}, {Name: "g", Arity: 2, Sort: api.Whole}}
}

// What is handed in stays, and its spare room; it may be written over once the call has answered.
func TestHandedIn(t *testing.T) {
	for _, l := range exemplars() {
		own, syms := roomyApps(l), roomy(exemplarSyms(), api.Sym{Name: "spare"})
		m, e := tables.Build(syms, own)
		i, k, found := tables.Clash(own)
		if !sameApps(own, roomyApps(l)) || !slices.Equal(withSpare(syms), withSpare(roomy(exemplarSyms(), api.Sym{Name: "spare"}))) {
			t.Fatalf("Build and Clash of %v change what is handed in: %v, %v", l, own, syms)
		}
		was := copyModel(m)
		wipeApps(own)
		overwrite(syms, api.Sym{})
		if !isSameModel(m, was) {
			t.Fatalf("Build of %v: the answer is memory of what is handed in", l)
		}
		again, e2 := tables.Build(exemplarSyms(), l)
		i2, k2, found2 := tables.Clash(l)
		if !isSameModel(again, was) || e != e2 || i != i2 || k != k2 || found != found2 {
			t.Fatalf("Build and Clash of %v: %v, %d, %d, %d, %v, then %v, %d, %d, %d, %v", l, was, e, i, k, found, again, e2, i2, k2, found2)
		}
	}
}

// What is answered may be written over: no other answer hangs on it, nor what was handed in.
func TestAnsweredIsNew(t *testing.T) {
	for _, l := range exemplars() {
		own := roomyApps(l)
		a, _ := tables.Build(exemplarSyms(), own)
		b, _ := tables.Build(exemplarSyms(), own)
		was := copyModel(b)
		wipeModel(a)
		if !isSameModel(b, was) {
			t.Fatalf("Build of %v: two answers share memory", l)
		}
		if !sameApps(own, roomyApps(l)) {
			t.Fatalf("Build of %v: the answer is memory of what is handed in", l)
		}
		if c, _ := tables.Build(exemplarSyms(), own); !isSameModel(c, was) {
			t.Fatalf("Build of %v: %v, then %v", l, was, c)
		}
	}
}

// No two lists of one answer share memory, nor spare room.
func TestListsOfOneAnswerAreTheirOwn(t *testing.T) {
	for _, l := range exemplars() {
		m, _ := tables.Build(exemplarSyms(), l)
		all := numberLists(m)
		for i, n := range all {
			overwrite(n, uint64(i+100))
		}
		for i, n := range all {
			if slices.ContainsFunc(withSpare(n), func(w uint64) bool { return w != uint64(i+100) }) {
				t.Fatalf("Build of %v: two numbers of the answer share memory", l)
			}
		}
		args := argLists(m)
		for i, list := range args {
			overwrite(list, of(uint64(i)))
		}
		for i, list := range args {
			if slices.ContainsFunc(withSpare(list), func(a api.Int) bool { return !isSameInt(a, of(uint64(i))) }) {
				t.Fatalf("Build of %v: two rows of the answer share memory", l)
			}
		}
	}
}

// The same call is answered alike again, and what is answered doesn't hang on what was asked between.
func TestAskedAgain(t *testing.T) {
	var l []api.App
	for i := range int64(300) {
		l = append(l, says(2, i%7, i%17, i/17), says(1, i%2, i), says(0, 4))
	}
	first := made(t, exemplarSyms(), l...)
	for range 20 {
		made(t, exemplarSyms(), says(0, 1), says(1, 5, 5))
		clashes(t, 0, 1, says(0, 1), says(0, 2))
		if again := made(t, exemplarSyms(), l...); !isSameModel(first, again) {
			t.Fatalf("Build: first %v, then %v", first, again)
		}
		noClash(t, l...)
	}
}
