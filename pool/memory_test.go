package pool_test

import (
	"slices"
	"testing"

	"elenchus/api"
	"elenchus/pool"
)

// roomy is a list with room to spare, in which nothing may be written, and all its room.
func roomy[T any](l []T, spare T) ([]T, []T) {
	room := append(slices.Clone(l), spare, spare, spare, spare)
	return room[:len(l)], room
}

// overwrite fills a list and its spare room.
func overwrite[T any](l []T, v T) {
	l = l[:cap(l)]
	for i := range l {
		l[i] = v
	}
}

// spoil overwrites all lists of rows, and their spare room.
func spoil(r api.Terms) {
	for _, t := range r.Terms {
		overwrite(t.Args, -77)
		overwrite(t.Num.Abs, 77)
	}
	overwrite(r.Terms, api.Term{Op: 77})
	overwrite(r.Syms, api.Sym{Name: "spoilt", Arity: 77})
}

// What New is given stays, isn't kept, and isn't written behind.
func TestNewKeepsNothing(t *testing.T) {
	syms, room := roomy(few(), named("spare", 1, api.Bool))
	before := slices.Clone(room)
	p := newPool(t, syms)
	checkDeclared(t, p, named("a", 0, api.Bool), 5)
	checkDeclared(t, p, named("b", 0, api.Bool), 6)
	if !slices.Equal(room, before) {
		t.Fatalf("a pool changes the symbols of which it is made: %v", room)
	}
	overwrite(room, api.Sym{})
	checkRows(t, p, api.Terms{Syms: append(few(), named("a", 0, api.Bool), named("b", 0, api.Bool))})
	checkNotDeclared(t, p, named("x", 0, api.Whole), api.ErrName)
	checkMade(t, p, app(symX), 0)
}

// What Make is given stays, isn't kept, and isn't written behind.
func TestMakeKeepsNothing(t *testing.T) {
	p := newPool(t, few())
	for i, what := range append(someTerms(), num(of(9, 0, 0)), mul(of(8, 7, 0), 1), api.Term{Op: api.OpTrue, Num: below(0, 0)}) {
		args, roomArgs := roomy(what.Args, 55)
		words, roomWords := roomy([]uint64(what.Num.Abs), 55)
		beforeArgs, beforeWords := slices.Clone(roomArgs), slices.Clone(roomWords)
		what.Args, what.Num.Abs = args, words
		for range 2 {
			checkMade(t, p, what, i)
		}
		p.Rows()
		if !slices.Equal(roomArgs, beforeArgs) || !slices.Equal(roomWords, beforeWords) {
			t.Fatalf("Make changes what it is given: %v, %v", roomArgs, roomWords)
		}
		overwrite(roomArgs, 1)
		overwrite(roomWords, 1)
	}
	want := append(someTerms(), num(of(9)), mul(of(8, 7), 1), term(api.OpTrue))
	checkRows(t, p, api.Terms{Syms: few(), Terms: want})
	for i, what := range want {
		checkMade(t, p, what, i)
	}
}

// What Make refuses stays, too, and nothing of it is kept.
func TestRefusedTermsStay(t *testing.T) {
	p := fewPool(t)
	for _, what := range []api.Term{
		term(14, termP), {Op: api.OpNot, Num: of(1, 0), Args: []int{termP}}, app(9, termX),
		term(api.OpNot, 99, -1), term(api.OpNot, termP, termP), term(api.OpNot, termX),
	} {
		args, roomArgs := roomy(what.Args, 55)
		words, roomWords := roomy([]uint64(what.Num.Abs), 55)
		beforeArgs, beforeWords := slices.Clone(roomArgs), slices.Clone(roomWords)
		what.Args, what.Num.Abs = args, words
		if _, err := p.Make(what); err == api.OK {
			t.Fatalf("Make of %v: no error", what)
		}
		if !slices.Equal(roomArgs, beforeArgs) || !slices.Equal(roomWords, beforeWords) {
			t.Fatalf("Make changes what it refuses: %v, %v", roomArgs, roomWords)
		}
		overwrite(roomArgs, 0)
		overwrite(roomWords, 0)
		checkRows(t, p, fewPool(t).Rows())
	}
}

// Rows are new memory each time: neither the pool nor other rows change with them.
func TestRowsAreNewMemory(t *testing.T) {
	p := newPool(t, few())
	for i, what := range someTerms() {
		checkMade(t, p, what, i)
	}
	first, second := p.Rows(), p.Rows()
	spoil(first)
	if !equalRows(second, someRows()) {
		t.Fatalf("two answers share memory: %v", second)
	}
	checkRows(t, p, someRows())
	for i, what := range someTerms() {
		checkMade(t, p, what, i)
	}
	checkSort(t, p, 7, api.Bool)
	checkNotDeclared(t, p, named("f", 1, api.Whole), api.ErrName)
	// What comes behind isn't seen in rows that were told ahead.
	checkDeclared(t, p, named("a", 0, api.Bool), 5)
	checkMade(t, p, app(5), len(someTerms()))
	if !equalRows(second, someRows()) {
		t.Fatalf("rows grow with the pool: %v", second)
	}
}

// No two lists of rows share memory, nor spare room.
func TestListsHaveMemoryOfTheirOwn(t *testing.T) {
	p := newPool(t, few())
	for i, what := range someTerms() {
		checkMade(t, p, what, i)
	}
	got := p.Rows()
	for i := range got.Terms {
		args, words := got.Terms[i].Args, got.Terms[i].Num.Abs
		overwrite(args[len(args):], -5)
		overwrite(words[len(words):], 5)
	}
	if !equalRows(got, someRows()) {
		t.Fatalf("lists share spare room: %v", got)
	}
	for i := range got.Terms {
		overwrite(got.Terms[i].Args, -5)
		overwrite(got.Terms[i].Num.Abs, 5)
		rest := api.Terms{Syms: got.Syms, Terms: got.Terms[i+1:]}
		if !equalRows(rest, api.Terms{Syms: few(), Terms: someTerms()[i+1:]}) {
			t.Fatalf("lists share memory: %v", rest)
		}
	}
}

func TestCheckChangesNothing(t *testing.T) {
	terms := append(someTerms(), num(of(9, 0)), api.Term{Op: api.OpTrue, Num: below(0)})
	for i := range terms {
		terms[i].Args, _ = roomy(terms[i].Args, 55)
		words, _ := roomy([]uint64(terms[i].Num.Abs), 55)
		terms[i].Num.Abs = words
	}
	syms, roomSyms := roomy(few(), named("spare", 1, api.Bool))
	list, roomTerms := roomy(terms, term(api.OpFalse))
	r := api.Terms{Syms: syms, Terms: list}
	full := api.Terms{Syms: roomSyms, Terms: roomTerms}
	before := copyRows(full)
	for range 2 {
		checkCheck(t, r, api.OK)
	}
	if !equalRows(full, before) {
		t.Fatalf("Check changes what it is given: %v", full)
	}
	for _, what := range terms {
		if spare := what.Args[len(what.Args):cap(what.Args)]; len(spare) < 4 || spare[0] != 55 || spare[3] != 55 {
			t.Fatalf("Check writes behind parts: %v", spare)
		}
		if spare := what.Num.Abs[len(what.Num.Abs):cap(what.Num.Abs)]; len(spare) < 4 || spare[0] != 55 || spare[3] != 55 {
			t.Fatalf("Check writes behind words: %v", spare)
		}
	}
}

// Pools of their own don't depend on one another.
func TestPoolsAreApart(t *testing.T) {
	syms, _ := roomy(few(), named("spare", 1, api.Bool))
	a, b := newPool(t, syms), newPool(t, syms)
	checkDeclared(t, a, named("h", 0, api.Bool), 5)
	checkMade(t, a, app(symX), 0)
	checkRows(t, b, api.Terms{Syms: few()})
	checkNotMade(t, b, app(5), api.ErrName)
	checkNoSort(t, b, 0)
	checkDeclared(t, b, named("i", 2, api.Whole), 5)
	checkMade(t, b, term(api.OpTrue), 0)
	checkMade(t, b, app(symX), 1)
	checkRows(t, a, api.Terms{Syms: append(few(), named("h", 0, api.Bool)), Terms: []api.Term{app(symX)}})
	if err := pool.Check(someRows()); err != api.OK {
		t.Fatal(err)
	}
	checkRows(t, b, api.Terms{Syms: append(few(), named("i", 2, api.Whole)), Terms: []api.Term{term(api.OpTrue), app(symX)}})
}
