package whole

import (
	"strconv"
	"strings"

	"elenchus/api"
)

const (
	mostBytes = 4096
	// A group is as many digits as half a word always holds.
	groupDigits = 9
	group       = 1000000000
)

// Print writes a number.
func Print(a api.Int) string {
	groups := tens(split(trim(a.Abs)))
	if len(groups) == 0 {
		return "0"
	}
	var out strings.Builder
	if a.Neg {
		out.WriteByte('-')
	}
	last := len(groups) - 1
	out.WriteString(digits(groups[last]))
	for i := last - 1; i >= 0; i-- {
		text := digits(groups[i])
		out.WriteString(strings.Repeat("0", groupDigits-len(text)))
		out.WriteString(text)
	}
	return out.String()
}

// tens are groups of digits, the lowest first. It changes what it is given.
func tens(h []uint32) []uint32 {
	var groups []uint32
	for len(h) > 0 {
		var rest uint32
		h, rest = divideShort(h, group)
		groups = append(groups, rest)
	}
	return groups
}

func digits(v uint32) string {
	return strconv.FormatUint(uint64(v), 10)
}

// Parse reads a number.
func Parse(s string) (api.Int, api.Errno) {
	if len(s) > mostBytes {
		return api.Int{}, api.ErrForm
	}
	text, below := strings.CutPrefix(s, "-")
	if !isSize(text) || below && text == "0" {
		return api.Int{}, api.ErrForm
	}
	var h []uint32
	for i := range len(text) {
		h = timesPlus(h, 10, uint32(text[i]-'0'))
	}
	return told(below, join(h)), api.OK
}

// isSize asks whether a text is "0", or digits that don't begin with 0.
func isSize(s string) bool {
	if s == "" || len(s) > 1 && s[0] == '0' {
		return false
	}
	for i := range len(s) {
		if s[i] < '0' || s[i] > '9' {
			return false
		}
	}
	return true
}
