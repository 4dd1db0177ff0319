package atoms

import (
	"strconv"
	"strings"

	"elenchus/api"
	"elenchus/whole"
)

// bound is an atom that can be compared as a whole, as one with a list of words can't be.
type bound struct {
	row   int
	below bool
	size  string
}

// atom finds or lays one, and its row. Both are kept: they must be memory of their own, and their
// numbers as numbers are told, so that each has one text.
func (t *Table) atom(row api.Linear, val api.Int) int {
	t.makeReady()
	a := api.Atom{Row: t.row(row), Val: val}
	b := bound{row: a.Row, below: val.Neg, size: sizeText(val.Abs)}
	n, ok := t.asked[b]
	if !ok {
		n = len(t.atoms)
		t.atoms = append(t.atoms, a)
		t.asked[b] = n
	}
	return n
}

// row finds or lays one.
func (t *Table) row(l api.Linear) int {
	text := rowText(l)
	n, ok := t.laid[text]
	if !ok {
		n = len(t.rows)
		t.rows = append(t.rows, l)
		t.laid[text] = n
	}
	return n
}

// makeReady makes the maps where there are none yet, so that a table that New didn't make is an
// empty one, too, and none of its calls panics.
func (t *Table) makeReady() {
	if t.laid == nil {
		t.laid = map[string]int{}
		t.asked = map[bound]int{}
	}
}

// rowText is a text of a row: just those that are the same have the same, since a sign stands behind
// each term, and an end behind each word.
func rowText(l api.Linear) string {
	var out strings.Builder
	for _, p := range l.Parts {
		out.WriteString(strconv.Itoa(p.Term))
		if p.Coef.Neg {
			out.WriteByte('-')
		} else {
			out.WriteByte('+')
		}
		out.WriteString(sizeText(p.Coef.Abs))
	}
	return out.String()
}

// sizeText is a text of a size, word by word: its digits in tens would take quadratic time.
func sizeText(n api.Nat) string {
	var out []byte
	for _, w := range n {
		out = append(strconv.AppendUint(out, w, 10), ',')
	}
	return string(out)
}

// ownRow is a row that shares no memory with the one that is given.
func ownRow(l api.Linear) api.Linear {
	var out api.Linear
	for _, p := range l.Parts {
		out.Parts = append(out.Parts, api.Part{Coef: whole.Norm(p.Coef), Term: p.Term})
	}
	return out
}

// ownAtom is an atom that shares no memory with the one that is given.
func ownAtom(a api.Atom) api.Atom {
	a.Val = whole.Norm(a.Val)
	return a
}
