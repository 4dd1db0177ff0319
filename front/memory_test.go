package front_test

import (
	"slices"
	"testing"

	"elenchus/api"
	"elenchus/front"
)

// overwrite fills a list and its spare room.
func overwrite[T any](l []T, v T) {
	l = l[:cap(l)]
	for i := range l {
		l[i] = v
	}
}

// spare is an expression that stands in spare room, in which nothing may be written.
func spare() api.Expr {
	return api.Expr{Kind: api.Keyword, At: 55, Text: "spare"}
}

// roomy is an expression all whose lists have room to spare.
func roomy(e api.Expr) api.Expr {
	var parts []api.Expr
	for _, part := range e.Parts {
		parts = append(parts, roomy(part))
	}
	e.Parts = append(parts, spare(), spare(), spare())[:len(parts)]
	return e
}

// equal asks whether expressions are alike, their spare room, too.
func equal(a, b api.Expr) bool {
	x, y := a.Parts[:cap(a.Parts)], b.Parts[:cap(b.Parts)]
	return a.Kind == b.Kind && a.At == b.At && a.Text == b.Text && len(a.Parts) == len(b.Parts) && slices.EqualFunc(x, y, equal)
}

// copied is an expression of its own memory, with spare room of its own.
func copied(e api.Expr) api.Expr {
	all := e.Parts[:cap(e.Parts)]
	out := make([]api.Expr, 0, len(all))
	for _, part := range all {
		out = append(out, copied(part))
	}
	e.Parts = out[:len(e.Parts):len(all)]
	return e
}

// spoilExpr overwrites an expression's lists, from the innermost on.
func spoilExpr(e api.Expr) {
	for _, part := range e.Parts {
		spoilExpr(part)
	}
	overwrite(e.Parts, spare())
}

// someTexts are expressions over the few symbols, and some that are refused.
func someTexts() []string {
	return []string{
		"(< x 3)", "(let ((a (+ x 1)) (c (- y))) (* 2 a))", "(=> p q (xor p q r))", "(- x y z 18446744073709551616)", "(distinct x y z)",
		"(and p (or q nosuch))", "(f p)", "(* x y)", "(let ((a p) (a q)) a)", "(let (a) p)", "(not p q)", "(and p ())",
		"(ite (= x y 7) (g x (f y)) (* 2 (- 3) x))", "(>= x y 1 z)", "|x|", "true", "(and (b x) (b 7))",
	}
}

// What Term is given stays, isn't kept, and isn't written behind.
func TestTermKeepsNothing(t *testing.T) {
	s, other := fewScope(t), fewScope(t)
	for _, text := range append(someTexts(), someTexts()...) {
		e := roomy(expr(t, text))
		before := copied(e)
		n, at, err := s.s.Term(e)
		if !equal(e, before) {
			t.Fatalf("Term of %q changes what it is given: %v", text, e)
		}
		if m, place, wrong := other.s.Term(expr(t, text)); n != m || at != place || err != wrong {
			t.Fatalf("Term of %q: %d, error %d at %d, but from other memory %d, error %d at %d", text, n, err, at, m, wrong, place)
		}
		rows := show(s.p.Rows())
		spoilExpr(e)
		s.has(rows)
		other.has(rows)
	}
}

// Names that were defined stay, and aren't kept from call to call where a let gave them.
func TestExpressionsMayBeChangedBetweenCalls(t *testing.T) {
	s := fewScope(t)
	parts := []api.Expr{{Kind: api.Symbol, Text: "and"}, {Kind: api.Symbol, Text: "p"}, {Kind: api.Symbol, Text: "q"}}
	e := api.Expr{Kind: api.List, Parts: parts}
	s.termOf(e, 2)
	parts[0].Text = "or"
	s.termOf(e, 3)
	parts[2].Text = "p"
	s.termOf(e, 4)
	parts[2].Text = "a"
	s.wrongOf(e, 0, api.ErrName)
	s.define("a", 0)
	s.termOf(e, 4)
	s.has("p, q, and 0 1, or 0 1, or 0 0")
}

// What Read is given stays, isn't kept, and isn't written behind; its answers are new memory.
func TestReadIsNewMemory(t *testing.T) {
	syms := append(few(), named("spare", 0, api.Bool), named("spare2", 0, api.Bool))
	given := syms[:len(few())]
	for _, text := range append(someTexts(), "(< x 3) (- 18446744073709551616) p q (* 5 (- 7) x)", "p q r") {
		a, first, _, wrong := front.Read(given, text)
		b, second, _, _ := front.Read(given, text)
		if !slices.Equal(syms[:len(few())], few()) || syms[len(few())].Name != "spare" || syms[len(few())+1].Name != "spare2" {
			t.Fatalf("Read of %q changes the symbols that it is given: %v", text, syms)
		}
		if wrong != api.OK {
			continue
		}
		want, numbers := show(b), slices.Clone(second)
		for _, what := range a.Terms {
			overwrite(what.Args, -77)
			overwrite(what.Num.Abs, 77)
		}
		overwrite(a.Terms, api.Term{Op: 77})
		overwrite(a.Syms, api.Sym{Name: "spoilt"})
		overwrite(first, -77)
		if show(b) != want || !slices.Equal(second, numbers) || !slices.Equal(b.Syms, few()) || !slices.Equal(given, few()) {
			t.Fatalf("two answers of Read of %q share memory", text)
		}
		checkRead(t, given, text, want, numbers...)
	}
}

// No two lists of an answer share memory, nor spare room.
func TestListsHaveMemoryOfTheirOwn(t *testing.T) {
	text := "(and p q) (or p q) (+ 18446744073709551616 x y) (* 18446744073709551616 2 x) (and p q) (- x y z) (f x) (f y)"
	got, numbers, _, err := readFew(text)
	if err != api.OK {
		t.Fatal(err)
	}
	want, _, _, _ := readFew(text)
	wantNumbers := slices.Clone(numbers)
	for i := range got.Terms {
		args, words := got.Terms[i].Args, got.Terms[i].Num.Abs
		overwrite(args[len(args):], -5)
		overwrite(words[len(words):], 5)
	}
	if show(got) != show(want) {
		t.Fatalf("lists share spare room: %s", show(got))
	}
	for i := range got.Terms {
		overwrite(got.Terms[i].Args, -5)
		overwrite(got.Terms[i].Num.Abs, 5)
		rest := api.Terms{Syms: got.Syms, Terms: got.Terms[i+1:]}
		if show(rest) != show(api.Terms{Syms: few(), Terms: want.Terms[i+1:]}) {
			t.Fatalf("lists share memory: %s", show(rest))
		}
	}
	if !slices.Equal(numbers, wantNumbers) {
		t.Fatalf("the numbers share memory with the rows: %v", numbers)
	}
}

// A pool's rows that were told ahead don't change while a scope reads, and the scope doesn't hang on them.
func TestScopesDontHangOnRows(t *testing.T) {
	s := fewScope(t)
	s.term("(* 2 x)", 2)
	rows := s.p.Rows()
	want := show(rows)
	s.term("(* 2 2 x)", 3)
	if show(rows) != want {
		t.Fatalf("rows change while a scope reads: %s", show(rows))
	}
	for _, what := range rows.Terms {
		overwrite(what.Args, -5)
		overwrite(what.Num.Abs, 5)
	}
	overwrite(rows.Syms, api.Sym{Name: "spoilt"})
	s.term("(* 2 2 x)", 3)
	s.has("2, x, mul 2 1, mul 4 1")
}
