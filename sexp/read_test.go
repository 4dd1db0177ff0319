package sexp_test

import (
	"strings"
	"testing"

	"elenchus/api"
	"elenchus/sexp"
)

func TestReadAsTold(t *testing.T) {
	checkText(t, "(a |b c| 1)", list(0, symbol("a", 1), symbol("b c", 3), number("1", 9)))
	checkFault(t, ")", 0, api.ErrClose)
	checkFault(t, "(()", 0, api.ErrOpen)
}

func TestReadOfNothing(t *testing.T) {
	for _, text := range []string{"", " ", "\t\r\n ", ";", "; only a remark", ";\n", " ; a\n;b\n\t;(", ";)|\\\"\x00\xff"} {
		checkText(t, text)
	}
}

func TestReadOfSymbols(t *testing.T) {
	for _, text := range []string{"a", "Z", "-", "-1", "+", "a1", "a01", "<=", "=>", "!", "x.y/z", letters, marks, letters + marks + tens} {
		checkText(t, text, symbol(text, 0))
		checkText(t, " "+text+"\t", symbol(text, 1))
		checkText(t, "|"+text+"|", symbol(text, 0))
	}
}

func TestReadOfQuotedSymbols(t *testing.T) {
	all := blanks
	for b := byte(32); b <= 126; b++ {
		if b != '|' && b != '\\' {
			all += string(rune(b))
		}
	}
	for _, text := range []string{"", " ", "1", "01", "a b", "(", ")", ";", ":", ": a", "a;b", "\n", "\t\r\n", "\"", all} {
		checkText(t, "|"+text+"|", symbol(text, 0))
		checkText(t, "(|"+text+"|)", list(0, symbol(text, 1)))
	}
}

func TestReadOfNumerals(t *testing.T) {
	for _, text := range []string{"0", "1", "9", "10", "1234567890", "9" + strings.Repeat("0", 5000)} {
		checkText(t, text, number(text, 0))
		checkText(t, "\n"+text+" ", number(text, 1))
	}
	checkText(t, "0 0", number("0", 0), number("0", 2))
	checkText(t, "(0)", list(0, number("0", 1)))
}

func TestReadOfWhatIsNoNumeral(t *testing.T) {
	for _, text := range []string{"00", "01", "007", "0" + tens} {
		checkFault(t, text, 0, api.ErrLex)
		checkFault(t, "a "+text, 2, api.ErrLex)
		checkFault(t, "("+text+")", 1, api.ErrLex)
	}
	for _, sign := range letters + marks {
		for _, ahead := range []string{"0", "1", "12", "01"} {
			checkFault(t, ahead+string(sign), 0, api.ErrLex)
			checkFault(t, " ("+ahead+string(sign)+"b)", 2, api.ErrLex)
		}
	}
	checkFault(t, "1-2", 0, api.ErrLex)
	checkFault(t, "1a\x00", 0, api.ErrLex)
}

func TestReadOfKeywords(t *testing.T) {
	for _, text := range []string{"a", "next", "1", "01", "0", "-", "!", "a1", letters + marks + tens} {
		checkText(t, ":"+text, key(text, 0))
		checkText(t, "( :"+text+")", list(0, key(text, 2)))
	}
	for _, behind := range []string{"", " ", " a", ":", ":a", "|a|", "(", ")", ";", "\n", "\"", "\x00", "\xff"} {
		checkFault(t, ":"+behind, 0, api.ErrLex)
		checkFault(t, "a :"+behind, 2, api.ErrLex)
	}
}

func TestReadOfWhatStandsWithoutBlanks(t *testing.T) {
	checkText(t, "a|b|c", symbol("a", 0), symbol("b", 1), symbol("c", 4))
	checkText(t, "|a||b|", symbol("a", 0), symbol("b", 3))
	checkText(t, "||||", symbol("", 0), symbol("", 2))
	checkText(t, "a:b", symbol("a", 0), key("b", 1))
	checkText(t, ":a:b", key("a", 0), key("b", 2))
	checkText(t, ":a|b|", key("a", 0), symbol("b", 2))
	checkText(t, "1|a|2", number("1", 0), symbol("a", 1), number("2", 4))
	checkText(t, "1:a", number("1", 0), key("a", 1))
	checkText(t, "|a|1", symbol("a", 0), number("1", 3))
	checkText(t, "1(2)3", number("1", 0), list(1, number("2", 2)), number("3", 4))
	checkText(t, "()()", list(0), list(2))
	checkText(t, "1;a\n2", number("1", 0), number("2", 4))
	checkText(t, "a;1", symbol("a", 0))
}

func TestReadOfLists(t *testing.T) {
	checkText(t, "()", list(0))
	checkText(t, "( )", list(0))
	checkText(t, "(;)\n)", list(0))
	checkText(t, "((a)b (c))", list(0, list(1, symbol("a", 2)), symbol("b", 4), list(6, symbol("c", 7))))
	checkText(t, "(a)(b)", list(0, symbol("a", 1)), list(3, symbol("b", 4)))
	checkText(t, "(((()))())", list(0, list(1, list(2, list(3))), list(7)))
}

func TestReadOfComments(t *testing.T) {
	checkText(t, "a ; b\nc", symbol("a", 0), symbol("c", 6))
	checkText(t, "a;b\rc\nd", symbol("a", 0), symbol("d", 6))
	checkText(t, "(a ; ))) \\ \x00\xc3\n)", list(0, symbol("a", 1)))
	checkText(t, "|;|;|", symbol(";", 0))
	checkText(t, "|a;\nb|", symbol("a;\nb", 0))
	checkText(t, "a ;", symbol("a", 0))
	checkText(t, "a ; the end", symbol("a", 0))
	checkFault(t, "(a ;)", 0, api.ErrOpen)
	checkFault(t, "|a ;|\n|", 6, api.ErrOpen)
}

func TestReadOfEachByte(t *testing.T) {
	for b := range 256 {
		sign := string([]byte{byte(b)})
		for _, frame := range []string{"?", "a?", "1?", "?1", ":?", "|?|", "|a?", "(?)", "(a ?", ";?", ";\n?", "|a|?", "?)", "( ?"} {
			checkRead(t, strings.ReplaceAll(frame, "?", sign))
		}
		if strings.Contains(letters+marks+tens+blanks+"();:|", sign) {
			continue
		}
		checkFault(t, sign, 0, api.ErrLex)
		checkFault(t, "a"+sign, 1, api.ErrLex)
		checkFault(t, "(1"+sign+")", 2, api.ErrLex)
		if b < 32 || b > 126 || b == '\\' {
			checkFault(t, "|a"+sign+"|", 2, api.ErrLex)
			checkFault(t, "("+"|a b"+sign, 5, api.ErrLex)
		}
	}
}

func TestReadOfWhatIsNotClosed(t *testing.T) {
	checkFault(t, "(", 0, api.ErrOpen)
	checkFault(t, "((", 1, api.ErrOpen)
	checkFault(t, "(a (b) (c", 7, api.ErrOpen)
	checkFault(t, "() (a ()", 3, api.ErrOpen)
	checkFault(t, "|", 0, api.ErrOpen)
	checkFault(t, "|||", 2, api.ErrOpen)
	checkFault(t, "a |b (c", 2, api.ErrOpen)
	checkFault(t, "(a |b", 3, api.ErrOpen)
	checkFault(t, "(a |b)", 3, api.ErrOpen)
	checkFault(t, "(|a| (", 5, api.ErrOpen)
	checkFault(t, strings.Repeat("(", api.MaxDeep), api.MaxDeep-1, api.ErrOpen)
}

func TestReadOfWhatClosesNothing(t *testing.T) {
	checkFault(t, "())", 2, api.ErrClose)
	checkFault(t, "a)", 1, api.ErrClose)
	checkFault(t, " ; (\n)", 5, api.ErrClose)
	checkFault(t, "|(|)", 3, api.ErrClose)
}

func TestReadOfDeepLists(t *testing.T) {
	opens, shuts := strings.Repeat("(", api.MaxDeep), strings.Repeat(")", api.MaxDeep)
	for _, text := range []string{opens + shuts, opens + "a" + shuts, opens + shuts + opens + shuts} {
		if got, at, e := sexp.Read(text); e != api.OK || at != 0 || len(got) == 0 {
			t.Fatal(text, at, e)
		}
		checkRead(t, text)
	}
	checkFault(t, opens+"(", api.MaxDeep, api.ErrDeep)
	checkFault(t, opens+"()"+shuts, api.MaxDeep, api.ErrDeep)
	checkFault(t, opens+") (a b) (())", api.MaxDeep+9, api.ErrDeep)
	checkFault(t, strings.Repeat("(", 60000), api.MaxDeep, api.ErrDeep)
	checkText(t, strings.Repeat("() ", 3)+"a", list(0), list(3), list(6), symbol("a", 9))
}

func TestReadTellsWhatIsWrongFirst(t *testing.T) {
	deep := strings.Repeat("(", api.MaxDeep+1)
	checkFault(t, ") \\", 0, api.ErrClose)
	checkFault(t, "\\ )", 0, api.ErrLex)
	checkFault(t, "(a \\", 3, api.ErrLex)
	checkFault(t, "(a |\\", 4, api.ErrLex)
	checkFault(t, "(a 01", 3, api.ErrLex)
	checkFault(t, "(a : (", 3, api.ErrLex)
	checkFault(t, "()) (", 2, api.ErrClose)
	checkFault(t, deep+"\\", api.MaxDeep, api.ErrDeep)
	checkFault(t, "\\"+deep, 0, api.ErrLex)
	checkFault(t, ")"+deep, 0, api.ErrClose)
	checkFault(t, "1a 01 )", 0, api.ErrLex)
	checkFault(t, "a |b\x00 |c\\", 4, api.ErrLex)
}

func TestReadOfLongTexts(t *testing.T) {
	for _, unit := range []string{"a", " ", "1", "()", ":b", "|c|", "; \n", "(d ) ", "\\", "(", ")"} {
		text := strings.Repeat(unit, api.MaxText)[:api.MaxText]
		checkRead(t, text)
		checkRead(t, text[1:])
		checkFault(t, text+" ", 0, api.ErrLong)
		checkFault(t, text+text, 0, api.ErrLong)
	}
	name := strings.Repeat("b", api.MaxText)
	checkText(t, name, symbol(name, 0))
	checkText(t, name[3:]+" c;", symbol(name[3:], 0), symbol("c", api.MaxText-2))
	checkText(t, ";"+name[1:])
	checkText(t, "|"+name[2:]+"|", symbol(name[2:], 0))
	checkFault(t, "|"+name[1:], 0, api.ErrOpen)
	checkFault(t, strings.Repeat(" ", api.MaxText-1)+"(", api.MaxText-1, api.ErrOpen)
	checkFault(t, strings.Repeat("\\", api.MaxText+1), 0, api.ErrLong)
}

// All texts of few signs: each sort of sign stands behind and ahead of each other one.
func TestReadOfAllShortTexts(t *testing.T) {
	signs := "a01- |:();\n\\\xe9"
	texts := []string{""}
	for range 4 {
		var longer []string
		for _, text := range texts {
			checkRead(t, text)
			for i := range len(signs) {
				longer = append(longer, text+signs[i:i+1])
			}
		}
		texts = longer
	}
	for _, text := range texts {
		checkRead(t, text)
	}
}

func TestReadOfAnyTexts(t *testing.T) {
	r := chance()
	for range 60000 {
		checkRead(t, anyOf(r, "aB01-: |||\n\t\r;((()))\"\\\x7f"[:18+r.IntN(6)], r.IntN(30)))
	}
}
