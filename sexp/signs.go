package sexp

import (
	"strings"
)

// The sorts of signs, by what they begin.
const (
	other = iota
	blank
	semicolon
	letter // begins a symbol; a digit may stand in one, but begins a numeral
	digit
	bar
	colon
	open
	shut
	sorts // how many there are
)

// The signs of a symbol beside letters and digits.
const marks = "~!@$%^&*_-+=<>.?/"

func sortOf(b byte) int {
	switch {
	case 'a' <= b && b <= 'z', 'A' <= b && b <= 'Z', strings.IndexByte(marks, b) >= 0:
		return letter
	case '0' <= b && b <= '9':
		return digit
	}
	switch b {
	case ' ', '\t', '\n', '\r':
		return blank
	case ';':
		return semicolon
	case '|':
		return bar
	case ':':
		return colon
	case '(':
		return open
	case ')':
		return shut
	}
	return other
}

// isSign asks whether a byte is a sign of a symbol.
func isSign(b byte) bool {
	sort := sortOf(b)
	return sort == letter || sort == digit
}

func isDigit(b byte) bool {
	return sortOf(b) == digit
}

// isQuotable asks whether a byte may stand in a quoted symbol.
func isQuotable(b byte) bool {
	return sortOf(b) == blank || ' ' <= b && b <= '~' && b != '|' && b != '\\'
}

// leading tells how many bytes at a text's front are of one kind.
func leading(text string, is func(byte) bool) int {
	for i := range len(text) {
		if !is(text[i]) {
			return i
		}
	}
	return len(text)
}

func all(text string, are func(byte) bool) bool {
	return leading(text, are) == len(text)
}

// isPlain asks whether a text is a symbol without "|".
func isPlain(text string) bool {
	return text != "" && sortOf(text[0]) == letter && all(text, isSign)
}

func isNumeral(text string) bool {
	return text == "0" || text != "" && text[0] != '0' && all(text, isDigit)
}

// isKey asks whether a text, behind ":", is a keyword.
func isKey(text string) bool {
	return text != "" && all(text, isSign)
}
