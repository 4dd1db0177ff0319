package front_test

import (
	"slices"
	"strings"
	"testing"

	"elenchus/api"
)

// checkNumeral fails unless a numeral is read as this number.
func checkNumeral(t *testing.T, text string) {
	t.Helper()
	s := newScope(t)
	s.termOf(api.Expr{Kind: api.Numeral, At: 3, Text: text}, 0)
	if got := s.p.Rows().Terms[0]; got.Op != api.OpNum || !isTold(got.Num, number(text)) {
		t.Fatalf("Term of the numeral %s: %v", text, got)
	}
}

func TestNumerals(t *testing.T) {
	for _, text := range []string{"0", "1", "7", "10", "4096", "9223372036854775807", "9223372036854775808", "18446744073709551615", "18446744073709551616", "340282366920938463463374607431768211456", "1" + strings.Repeat("0", 500), strings.Repeat("73", 2000)} {
		checkNumeral(t, text)
		makes(t, text, text)
		makes(t, "(- "+text+")", text+", mul -1 0")
	}
	checkRead(t, nil, "0 (- 0) 0 1", "0, mul -1 0, 1", 0, 1, 0, 2)
}

func TestNumeralsBelowZero(t *testing.T) {
	for _, text := range []string{"-1", "-7", "-10", "-9223372036854775808", "-18446744073709551616", "-" + strings.Repeat("73", 2000)} {
		checkNumeral(t, text)
	}
	// In a text these are symbols.
	wrong(t, "(+ x §-1)", api.ErrName)
	checkRead(t, []api.Sym{named("-1", 0, api.Whole)}, "(- -1)", "-1, mul -1 0", 1)
}

func TestSymbols(t *testing.T) {
	makes(t, "true", "true")
	makes(t, "false", "false")
	makes(t, "|true|", "true")
	makes(t, "p", "p")
	makes(t, "x", "x")
	makes(t, "|x|", "x")
	makes(t, "(f x)", "x, f 0")
	makes(t, "(g x (f y))", "x, y, f 1, g 0 2")
	makes(t, "(b x)", "x, b 0")
	makes(t, "(|b| |x|)", "x, b 0")
	makes(t, "(p)", "p")
	makes(t, "(x)", "x")
	checkRead(t, few(), "x (x) |x| (|x|) p (p)", "x, p", 0, 0, 0, 0, 1, 1)
	for _, name := range []string{"§nosuch", "§X", "§True", "§|x |", "§||", "§and", "§let", "§-", "§=>"} {
		wrong(t, name, api.ErrName)
		wrong(t, "(= x "+name+")", api.ErrName)
	}
	for _, name := range []string{"§f", "§g", "§b", "§|f|"} {
		wrong(t, name, api.ErrCount)
		wrong(t, "(= x "+name+")", api.ErrCount)
	}
}

// Symbols that are called true, false, or as an operator is, or let.
func TestSymbolsOfOtherNames(t *testing.T) {
	syms := []api.Sym{
		named("true", 0, api.Whole), named("false", 1, api.Whole), named("and", 0, api.Bool), named("not", 1, api.Bool),
		named("let", 0, api.Whole), named("+", 2, api.Whole), named("7", 0, api.Whole), named("a b", 0, api.Bool),
	}
	checkRead(t, syms, "true false", "true, false", 0, 1)
	checkRead(t, syms, "(true)", "true", 0)
	checkRead(t, syms, "(false (true))", "true, false 0", 1)
	checkRead(t, syms, "and", "and", 0)
	checkRead(t, syms, "(and and and)", "and, and 0 0", 1)
	checkRead(t, syms, "(and and)", "and", 0)
	checkRead(t, syms, "let", "let", 0)
	checkRead(t, syms, "(let ((x let)) (+ x let))", "let, add 0 0", 1)
	checkRead(t, syms, "7 |7|", "7, 7", 0, 1)
	checkRead(t, syms, "|a b|", "a b", 0)
	checkNotRead(t, syms, "(= 1 +)", 5, api.ErrCount)
	checkNotRead(t, syms, "(= 1 not)", 5, api.ErrCount)
	checkNotRead(t, syms, "(not 7)", 0, api.ErrSort)
	checkNotRead(t, syms, "(true 7)", 0, api.ErrCount)
	checkNotRead(t, syms, "(let)", 0, api.ErrForm)
	// Both are shown alike, so they are asked apart.
	s := newScope(t, syms...)
	s.term("true", 0)
	s.term("(true)", 1)
	s.term("|true|", 0)
	if got := s.p.Rows().Terms; got[0].Op != api.OpTrue || got[1].Op != api.OpApp || got[1].Sym != 0 {
		t.Fatalf("true and the symbol true are %v", got)
	}
}

// true and false, then the lets' names from the innermost outward, then defined names, then symbols.
func TestOrderOfNames(t *testing.T) {
	s := fewScope(t)
	s.term("1", 0)
	s.term("2", 1)
	s.term("3", 2)
	s.term("true", 3)
	s.term("x", 4)
	s.define("a", 0)
	s.define("c", 0)
	s.term("a", 0)
	s.term("(let ((a 2)) a)", 1)
	s.term("(let ((a 2)) (let ((a 3)) a))", 2)
	s.term("(let ((a 2)) (let ((c 3)) a))", 1)
	s.term("(let ((a 2)) (let ((c 3)) c))", 2)
	s.term("(let ((c 2)) a)", 0)
	s.term("(let ((x 2)) x)", 1)
	s.term("(let ((x a)) x)", 0)
	s.term("(let ((true 2) (false 3)) true)", 3)
	s.term("(let ((|true| 2)) |true|)", 3)
	s.term("(let ((nosuch 2)) nosuch)", 1)
	s.term("(let ((f 2)) f)", 1)
	s.term("x", 4)
	s.has("1, 2, 3, true, x")
}

func TestWhatIsNoExpression(t *testing.T) {
	for _, text := range []string{"§:key", "§()", "§(1 2)", "§(() x)", "§((f) x)", "§((and) p)", "§(:and p q)", "§(1)", "§(:k)", "§(())"} {
		wrong(t, text, api.ErrForm)
		wrong(t, "(and p "+text+")", api.ErrForm)
		wrong(t, "(let ((a "+text+")) nosuch)", api.ErrForm)
		wrong(t, "x "+text+" ()", api.ErrForm)
	}
}

// Whatever a list begins with that isn't a symbol, its parts aren't read.
func TestListsThatBeginWithNoSymbol(t *testing.T) {
	s := fewScope(t)
	for _, marked := range []string{"§(1 x)", "§(() x)", "§((f y) x)", "§(:k x)", "(and p §((f y) nosuch))"} {
		s.wrong(marked, api.ErrForm)
	}
	s.has("p")
}

// Expressions of which no text is: each is refused, and the call ends.
func TestWhatNoTextIs(t *testing.T) {
	s := fewScope(t)
	for _, e := range []api.Expr{
		{}, {Kind: -1}, {Kind: 5}, {Kind: 0, Text: "x"}, {Kind: 99, Parts: []api.Expr{{Kind: api.Symbol, Text: "x"}}},
		{Kind: api.Numeral}, {Kind: api.Numeral, Text: "x"}, {Kind: api.Numeral, Text: "-"}, {Kind: api.Numeral, Text: "1 "},
		{Kind: api.Keyword}, {Kind: api.List}, {Kind: api.List, Text: "x"}, {Kind: api.Symbol},
		{Kind: api.List, Parts: []api.Expr{{}}}, {Kind: api.List, Parts: []api.Expr{{Kind: api.Symbol}}},
	} {
		for _, whole := range []api.Expr{e, {Kind: api.List, Parts: []api.Expr{{Kind: api.Symbol, Text: "not"}, e}}} {
			if n, _, err := s.s.Term(whole); n != 0 || err == api.OK {
				t.Errorf("Term of %v: %d, error %d", whole, n, err)
			}
		}
	}
	s.has("")
}

// Places are those that the expressions tell, whatever they are.
func TestPlacesAreTheExpressions(t *testing.T) {
	at := func(e api.Expr, place int) api.Expr {
		e.At = place
		return e
	}
	key, empty := api.Expr{Kind: api.Keyword, Text: "k"}, api.Expr{Kind: api.List}
	s := fewScope(t)
	for _, place := range []int{0, 5, 1 << 40, -3} {
		s.wrongOf(at(key, place), place, api.ErrForm)
		s.wrongOf(at(empty, place), place, api.ErrForm)
		s.wrongOf(api.Expr{Kind: api.Symbol, At: place, Text: "nosuch"}, place, api.ErrName)
		list := api.Expr{Kind: api.List, At: 9, Parts: []api.Expr{{Kind: api.Symbol, Text: "and", At: 10}, at(empty, place)}}
		s.wrongOf(list, place, api.ErrForm)
		list = api.Expr{Kind: api.List, At: place, Parts: []api.Expr{{Kind: api.Symbol, Text: "not", At: 10}}}
		s.wrongOf(list, place, api.ErrCount)
	}
}

// Names, and what they stand for, don't hang on how symbols are written, and blanks mean nothing.
func TestBlanksMeanNothing(t *testing.T) {
	want := show(first(t, "(let ((a (+ x 1))) (<= a (f y)))"))
	for _, text := range []string{
		" (let((a(+ x 1)))(<= a(f y)))", "(let\n((|a| (+ |x| 1))) ; (\n\t(|<=| a (|f| y)))", "(|let| ((a (|+| x 1))) (<= |a| (f y))) ;",
	} {
		if got := show(first(t, text)); got != want {
			t.Errorf("%q makes %s, but it is %s", text, got, want)
		}
	}
	if !slices.Equal(strings.Split(want, ", "), []string{"x", "1", "add 0 1", "y", "f 3", "le 2 4"}) {
		t.Error(want)
	}
}

// first are the rows of a text over the few symbols.
func first(t *testing.T, text string) api.Terms {
	t.Helper()
	s := fewScope(t)
	if _, at, err := s.s.Term(expr(t, text)); err != api.OK {
		t.Fatalf("Term of %q: error %d at %d", text, err, at)
	}
	return s.p.Rows()
}
