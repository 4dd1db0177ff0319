package sexp

import (
	"strings"

	"elenchus/api"
)

// writer writes an expression, and gives up where it could not be read. Parts may
// be shared, and then stand for more than there is room for: it must not go on.
type writer struct {
	strings.Builder
	room int  // how many bytes more the shortest text may have from which this is read
	last byte // the last sign but blanks
	gap  bool // a part is to come behind another one
}

// put writes signs that stand together, and tells whether there was room.
func (w *writer) put(signs string) bool {
	w.room -= len(signs)
	if w.gap && isSign(w.last) && isSign(signs[0]) {
		// Only here a blank can't be left out: the shortest text has it, too.
		w.room--
	}
	if w.room < 0 {
		return false
	}
	if w.gap {
		w.WriteByte(' ')
	}
	w.WriteString(signs)
	w.last, w.gap = signs[len(signs)-1], false
	return true
}

// expr writes an expression that stands in so many lists, and tells whether it could be read.
func (w *writer) expr(e api.Expr, deep int) bool {
	if e.Kind == api.List {
		return w.list(e, deep)
	}
	signs, ok := signsOf(e)
	return ok && len(e.Parts) == 0 && w.put(signs)
}

func (w *writer) list(e api.Expr, deep int) bool {
	if e.Text != "" || deep == api.MaxDeep || !w.put("(") {
		return false
	}
	for i, part := range e.Parts {
		w.gap = i > 0
		if !w.expr(part, deep+1) {
			return false
		}
	}
	return w.put(")")
}

// signsOf writes an expression that is no list, and tells whether its text is of its kind.
func signsOf(e api.Expr) (string, bool) {
	switch e.Kind {
	case api.Symbol:
		if isPlain(e.Text) {
			return e.Text, true
		}
		return "|" + e.Text + "|", all(e.Text, isQuotable)
	case api.Numeral:
		return e.Text, isNumeral(e.Text)
	case api.Keyword:
		return ":" + e.Text, isKey(e.Text)
	}
	return "", false
}
