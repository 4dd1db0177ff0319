package sexp_test

import (
	"strings"
	"testing"

	"elenchus/api"
	"elenchus/sexp"
)

func TestPrintOfEachKind(t *testing.T) {
	checkPrint(t, symbol("a", 0), "a")
	checkPrint(t, number("0", 0), "0")
	checkPrint(t, number("120", 0), "120")
	checkPrint(t, key("next", 0), ":next")
	checkPrint(t, key("01", 0), ":01")
	checkPrint(t, list(0), "()")
	checkPrint(t, list(0, symbol("a", 1), symbol("b c", 3), number("1", 9)), "(a |b c| 1)")
	checkPrint(t, list(0, list(0), list(0, list(0)), key("k", 0), symbol("", 0)), "(() (()) :k ||)")
}

func TestPrintOfAnyPlaces(t *testing.T) {
	for _, at := range []int{-1, 0, 7, 1 << 40} {
		checkPrint(t, list(at, symbol("a", -at), number("1", at)), "(a 1)")
	}
}

func TestPrintOfEmptyLists(t *testing.T) {
	none := []api.Expr{}
	checkPrint(t, api.Expr{Kind: api.List, Parts: none}, "()")
	checkPrint(t, api.Expr{Kind: api.Symbol, Text: "a", Parts: none}, "a")
}

func TestPrintQuotes(t *testing.T) {
	for _, text := range []string{"a", "Z9", "-", "-1", "<=", "a.b", "!", "a:b"[:1], letters + marks + tens} {
		checkPrint(t, symbol(text, 0), text)
	}
	for _, text := range []string{"", " ", "a b", "1", "1a", "0", "01", "a:b", ":a", "(", ")", ";", "a;", "\"", "#", "'", ",", "[", "]", "`", "{", "}", "\t", "\n", "\r", "a\n"} {
		checkPrint(t, symbol(text, 0), "|"+text+"|")
		checkPrint(t, list(0, symbol(text, 0)), "(|"+text+"|)")
	}
}

func TestPrintOfEachByte(t *testing.T) {
	for b := range 256 {
		text := string([]byte{byte(b)})
		for _, framed := range []string{text, "a" + text, text + "1"} {
			checkSymbolOf(t, framed)
			checkWordOf(t, api.Numeral, "", framed)
			checkWordOf(t, api.Keyword, ":", framed)
		}
		checkWordOf(t, api.Numeral, "", "1"+text)
	}
}

// checkSymbolOf holds a symbol's text against what is read of it, without "|" and between them.
func checkSymbolOf(t *testing.T, text string) {
	t.Helper()
	for _, written := range []string{text, "|" + text + "|"} {
		if got, _, e := expected(written); e == api.OK && len(got) == 1 && equal(got[0], symbol(text, 0)) {
			checkPrint(t, symbol(text, 0), written)
			return
		}
	}
	checkNotPrinted(t, "the symbol "+short(text), symbol(text, 0))
}

// checkWordOf holds a text of a kind against what is read of it.
func checkWordOf(t *testing.T, kind int, ahead, text string) {
	t.Helper()
	e := api.Expr{Kind: kind, Text: text}
	if got, _, err := expected(ahead + text); err == api.OK && len(got) == 1 && equal(got[0], e) {
		checkPrint(t, e, ahead+text)
		return
	}
	checkNotPrinted(t, short(text), e)
}

func TestPrintRefusesOtherKinds(t *testing.T) {
	for _, kind := range []int{0, -1, 5, 6, 1 << 20, -1 << 63} {
		for _, e := range []api.Expr{{Kind: kind}, {Kind: kind, Text: "a"}, {Kind: kind, Text: "1"}, {Kind: kind, Parts: []api.Expr{symbol("a", 0)}}} {
			checkNotPrinted(t, "another kind", e)
			checkNotPrinted(t, "another kind in a list", list(0, symbol("a", 0), e))
		}
	}
	checkNotPrinted(t, "nothing", api.Expr{})
}

func TestPrintRefusesTexts(t *testing.T) {
	for _, e := range []api.Expr{
		symbol("|", 0), symbol("a|b", 0), symbol("a\\", 0), symbol("\x00", 0), symbol("\x7f", 0), symbol("\u00e9", 0), symbol("a\v", 0),
		number("", 0), number("00", 0), number("01", 0), number("-1", 0), number("1a", 0), number("a", 0), number("1 ", 0), number("1 2", 0), number("|1|", 0), number("\u0661", 0),
		key("", 0), key(":a", 0), key("a b", 0), key("|a|", 0), key("a:", 0), key("a|", 0), key("\u00e9", 0), key(" ", 0), key("(", 0),
		{Kind: api.List, Text: "a"}, {Kind: api.List, Text: " "}, {Kind: api.List, Text: "()", Parts: []api.Expr{symbol("a", 0)}},
	} {
		checkNotPrinted(t, short(e.Text), e)
		checkNotPrinted(t, "a list with "+short(e.Text), list(0, symbol("a", 0), list(0, e), symbol("b", 0)))
	}
}

func TestPrintRefusesParts(t *testing.T) {
	for _, e := range []api.Expr{symbol("a", 0), symbol("a b", 0), number("1", 0), key("k", 0)} {
		checkPrint(t, e, mustPrint(t, e))
		for _, part := range []api.Expr{symbol("b", 0), list(0), {}} {
			e.Parts = []api.Expr{part}
			checkNotPrinted(t, "parts of "+short(e.Text), e)
			checkNotPrinted(t, "a list with parts of "+short(e.Text), list(0, e))
		}
	}
}

func mustPrint(t *testing.T, e api.Expr) string {
	t.Helper()
	text, err := sexp.Print(e)
	if err != api.OK {
		t.Fatalf("Print of %s: %d", shown(e), err)
	}
	return text
}

func TestPrintOfDeepLists(t *testing.T) {
	for _, deep := range []int{1, 2, api.MaxDeep - 1, api.MaxDeep} {
		checkPrint(t, nested(deep), strings.Repeat("(", deep)+strings.Repeat(")", deep))
	}
	checkPrint(t, list(0, symbol("a", 0), nested(api.MaxDeep-1), symbol("b", 0), nested(api.MaxDeep-1)),
		"(a "+strings.Repeat("(", 63)+strings.Repeat(")", 63)+" b "+strings.Repeat("(", 63)+strings.Repeat(")", 63)+")")
	for _, deep := range []int{api.MaxDeep + 1, api.MaxDeep + 2, 10000} {
		checkNotPrinted(t, "lists too deep", nested(deep))
	}
	checkNotPrinted(t, "lists too deep", list(0, symbol("a", 0), nested(api.MaxDeep)))
}

func TestPrintOfLongTexts(t *testing.T) {
	long := strings.Repeat("a", api.MaxText)
	checkPrint(t, symbol(long, 0), long)
	checkNotPrinted(t, "a long symbol", symbol(long+"a", 0))
	checkPrint(t, symbol(long[3:]+" ", 0), "|"+long[3:]+" |")
	checkNotPrinted(t, "a long quoted symbol", symbol(long[2:]+" ", 0))
	checkPrint(t, key(long[1:], 0), ":"+long[1:])
	checkNotPrinted(t, "a long keyword", key(long, 0))
	nines := strings.Repeat("9", api.MaxText)
	checkPrint(t, number(nines, 0), nines)
	checkNotPrinted(t, "a long numeral", number(nines+"9", 0))
	checkPrint(t, list(0, symbol(long[2:], 0)), "("+long[2:]+")")
	checkNotPrinted(t, "a list of a long symbol", list(0, symbol(long[1:], 0)))
}

// What could be read from no text of MaxText bytes isn't printed: here all blanks are needed.
func TestPrintOfManyParts(t *testing.T) {
	many := func(count int, e api.Expr) api.Expr {
		all := list(0)
		for range count {
			all.Parts = append(all.Parts, e)
		}
		return all
	}
	const most = (api.MaxText - 1) / 2
	for _, e := range []api.Expr{symbol("a", 0), number("1", 0)} {
		text := strings.TrimSuffix(strings.Repeat(e.Text+" ", most), " ")
		checkPrint(t, many(most, e), "("+text+")")
		checkNotPrinted(t, "too many parts", many(most+1, e))
	}
	checkNotPrinted(t, "too many lists", many(api.MaxText/2, list(0)))
	checkNotPrinted(t, "too many quoted symbols", many(api.MaxText/2, symbol("", 0)))
	checkNotPrinted(t, "too many keywords", many(api.MaxText/2, key("a", 0)))
}

// What can be read only where no blank stands that isn't needed is printed with blanks all the same.
func TestPrintOfWhatStoodWithoutBlanks(t *testing.T) {
	for _, unit := range []string{"()", "||", ":k", "a|b|", "1(2)", ":k()", "|x|y(1)"} {
		text := "(" + strings.Repeat(unit, (api.MaxText-2)/len(unit)) + ")"
		text = text[:len(text)-1] + strings.Repeat(" ", api.MaxText-len(text)) + ")"
		got := checkRead(t, text)
		if len(got) != 1 || len(text) != api.MaxText {
			t.Fatal(unit)
		}
		var parts []string
		for _, part := range got[0].Parts {
			parts = append(parts, mustPrint(t, part))
		}
		if mustPrint(t, got[0]) != "("+strings.Join(parts, " ")+")" {
			t.Fatalf("Print of many %s", unit)
		}
	}
}

// Parts that are shared stand for more than could ever be read, or written.
func TestPrintEndsOnSharedParts(t *testing.T) {
	e := symbol("a", 0)
	for range api.MaxDeep {
		e = list(0, e, e, e)
	}
	checkNotPrinted(t, "shared parts", e)
	circle := make([]api.Expr, 2)
	circle[0], circle[1] = list(0, circle...), list(0)
	circle[0].Parts = circle
	checkNotPrinted(t, "a list within itself", list(0, circle...))
	empty := api.Expr{}
	for range api.MaxDeep {
		empty = list(0, list(0), empty, empty)
	}
	checkNotPrinted(t, "shared parts of another kind", empty)
}

func TestPrintedIsReadAsItWas(t *testing.T) {
	r := chance()
	for range 20000 {
		e := anyExpr(r, 6)
		checkPrint(t, e, mustPrint(t, e))
	}
}

// What is read is printed, whatever blanks and remarks stood there, and is the same then.
func TestReadIsPrinted(t *testing.T) {
	r := chance()
	read := 0
	for range 60000 {
		for _, e := range checkRead(t, anyOf(r, "aB01- ||(())::\n;"[:12+r.IntN(5)], r.IntN(14))) {
			read++
			checkPrint(t, e, mustPrint(t, e))
		}
	}
	if read < 10000 {
		t.Fatalf("too few were read: %d", read)
	}
}
