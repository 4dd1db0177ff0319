package sexp_test

import (
	"strings"
	"testing"

	"elenchus/api"
	"elenchus/sexp"
)

// lists are all lists of parts within expressions, these among them.
func lists(l []api.Expr) [][]api.Expr {
	out := [][]api.Expr{l}
	for _, e := range l {
		if e.Kind == api.List {
			out = append(out, lists(e.Parts)...)
		}
	}
	return out
}

func copied(l []api.Expr) []api.Expr {
	var out []api.Expr
	for _, e := range l {
		e.Parts = copied(e.Parts)
		out = append(out, e)
	}
	return out
}

const nests = "(a (b c d) () (e (f)) g) (h) 1 () (2 3 (4))"

// What is put behind the parts of one list, in its spare room, is seen by no other list.
func TestListsHaveMemoryOfTheirOwn(t *testing.T) {
	got, _, _ := sexp.Read(nests)
	want := copied(got)
	for _, parts := range lists(got) {
		room := parts[:cap(parts)]
		for i := len(parts); i < len(room); i++ {
			room[i] = symbol("spare", 0)
		}
	}
	if !equalAll(got, want) {
		t.Fatalf("lists share memory: %v", got)
	}
	all := lists(got)
	for i, parts := range all {
		for j, other := range all {
			if i != j && cap(parts) > 0 && cap(other) > 0 && &parts[:1][0] == &other[:1][0] {
				t.Fatalf("the lists %v and %v share memory", parts, other)
			}
		}
	}
}

func TestAnswersAreApart(t *testing.T) {
	first, _, _ := sexp.Read(nests)
	want := copied(first)
	second, _, _ := sexp.Read(nests)
	for _, parts := range lists(first) {
		for i := range parts {
			parts[i] = api.Expr{}
		}
	}
	if !equalAll(second, want) {
		t.Fatalf("two answers share memory: %v", second)
	}
	third, _, _ := sexp.Read(nests)
	if !equalAll(third, want) {
		t.Fatalf("a later answer is another one: %v", third)
	}
}

func TestPrintChangesNothing(t *testing.T) {
	got, _, _ := sexp.Read(nests)
	for i := range got {
		parts := append(got[i].Parts, symbol("spare", 1), symbol("room", 2))
		got[i].Parts = parts[:len(parts)-2]
		want := copied([]api.Expr{{Kind: api.List, Parts: parts}})
		sexp.Print(got[i])
		got[i].At = -1
		if !equalAll(want, []api.Expr{{Kind: api.List, Parts: parts}}) {
			t.Fatalf("Print changes what it is given: %v", parts)
		}
	}
}

func TestCallsDependOnNothingElse(t *testing.T) {
	for range 3 {
		checkFault(t, strings.Repeat("(", 9), 8, api.ErrOpen)
		checkNotPrinted(t, "lists too deep", nested(api.MaxDeep+1))
		checkText(t, "(a)", list(0, symbol("a", 1)))
		checkPrint(t, list(0, symbol("a", 1)), "(a)")
	}
}
