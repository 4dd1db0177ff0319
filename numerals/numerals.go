// Package numerals reads numerals of any length. Layer 3 lets them be as long as a text,
// but whole.Parse takes no more than some bytes at once.
package numerals

import (
	"strings"

	"elenchus/api"
	"elenchus/whole"
)

// atOnce is how many bytes whole.Parse takes.
const atOnce = 4096

// Parse reads what whole.Print writes of a number, however long that is; ErrForm of all else.
func Parse(text string) (api.Int, api.Errno) {
	piece, rest := cut(text, atOnce)
	v, err := whole.Parse(piece)
	for err == api.OK && rest != "" {
		// One byte less, for the digit that is set ahead of the piece.
		piece, rest = cut(rest, atOnce-1)
		v, err = extended(v, piece)
	}
	return v, err
}

// cut parts a text behind so many bytes, or at its end.
func cut(text string, bytes int) (string, string) {
	bytes = min(bytes, len(text))
	return text[:bytes], text[bytes:]
}

// extended is a number that isn't 0, with more digits behind it.
func extended(v api.Int, digits string) (api.Int, api.Errno) {
	// The 1 is set ahead since the digits may begin with 0.
	led, err := whole.Parse("1" + digits)
	if err != api.OK {
		return api.Int{}, err
	}
	lead, _ := whole.Parse("1" + strings.Repeat("0", len(digits)))
	tail := whole.Sub(led, lead)
	if v.Neg {
		tail = whole.Neg(tail)
	}
	return whole.Add(whole.Mul(v, lead), tail), api.OK
}
