package tables

import (
	"strconv"

	"elenchus/api"
	"elenchus/whole"
)

// said tells of a text of a symbol and numbers which is the first that says something of them.
type said map[string]int

// first is the number of the first one of the same symbol and numbers: this one's own, if none is there yet.
func (s said) first(n int, a api.App) int {
	text := textOf(a)
	if _, ok := s[text]; !ok {
		s[text] = n
	}
	return s[text]
}

// textOf is a text of a symbol and numbers: just those that are the same have the same. A blank begins
// each number, and a sign each of its words, so that none runs into the next one.
func textOf(a api.App) string {
	out := strconv.AppendInt(nil, int64(a.Sym), 10)
	for _, arg := range a.Args {
		arg = whole.Norm(arg)
		sign := byte('+')
		if arg.Neg {
			sign = '-'
		}
		out = append(out, ' ')
		for _, word := range arg.Abs {
			out = strconv.AppendUint(append(out, sign), word, 10)
		}
	}
	return string(out)
}
