package system

import (
	"slices"

	"elenchus/api"
)

// The symbols and keywords that say something in a text.
const (
	nameTrue  = "true"
	nameFalse = "false"
	nameWhole = "Int"
	nameBool  = "Bool"
	nameNoted = "!"

	keyNone  = "" // no keyword has this text
	keyNext  = "next"
	keyInit  = "init"
	keyTrans = "trans"
	keyProp  = "invar-property"
	keyLemma = "lemma"
)

// declaration is what a declare-fun says.
type declaration struct {
	name api.Expr
	sym  api.Sym
}

// declarationOf tells, too, whether a list that begins with declare-fun has the form of one.
func declarationOf(e api.Expr) (declaration, bool) {
	if len(e.Parts) != 4 {
		return declaration{}, false
	}
	name, numbers, sort := e.Parts[1], e.Parts[2], sortOf(e.Parts[3])
	ok := name.Kind == api.Symbol && numbers.Kind == api.List && !slices.ContainsFunc(numbers.Parts, isNoNumber) && sort != 0
	return declaration{name, api.Sym{Name: name.Text, Arity: len(numbers.Parts), Sort: sort}}, ok
}

// definition is what a define-fun says. Where its body is noted with a keyword and a value,
// what stands ahead of these is the body.
type definition struct {
	at    int // the command's place
	name  api.Expr
	sort  int
	body  api.Expr
	key   string
	value api.Expr
}

// definitionOf tells, too, whether a list that begins with define-fun has the form of one.
func definitionOf(e api.Expr) (definition, bool) {
	if len(e.Parts) != 5 {
		return definition{}, false
	}
	none := e.Parts[2]
	d := definition{at: e.At, name: e.Parts[1], sort: sortOf(e.Parts[3]), body: e.Parts[4]}
	switch {
	case d.name.Kind != api.Symbol, none.Kind != api.List, len(none.Parts) > 0, d.sort == 0:
		return definition{}, false
	case headOf(d.body) == nameNoted:
		return d.parted()
	}
	return d, true
}

// parted is a definition whose body is parted from its note.
func (d definition) parted() (definition, bool) {
	noted := d.body.Parts
	if len(noted) != 4 || noted[2].Kind != api.Keyword {
		return definition{}, false
	}
	d.body, d.key, d.value = noted[1], noted[2].Text, noted[3]
	return d, d.mayBeNoted()
}

// mayBeNoted asks whether the keyword may stand at a body of this sort, with this value.
func (d definition) mayBeNoted() bool {
	switch d.key {
	case keyNext:
		return d.value.Kind == api.Symbol
	case keyInit, keyTrans, keyLemma:
		return d.sort == api.Bool && isSymbol(d.value, nameTrue)
	case keyProp:
		return d.sort == api.Bool && d.value.Kind == api.Numeral
	}
	return false
}

// headOf is the symbol with which a list begins; of all else it is the empty text, which means nothing as a head.
func headOf(e api.Expr) string {
	if e.Kind != api.List || len(e.Parts) == 0 || e.Parts[0].Kind != api.Symbol {
		return ""
	}
	return e.Parts[0].Text
}

// sortOf is 0 of what names no sort.
func sortOf(e api.Expr) int {
	switch {
	case isSymbol(e, nameWhole):
		return api.Whole
	case isSymbol(e, nameBool):
		return api.Bool
	}
	return 0
}

func isNoNumber(e api.Expr) bool {
	return sortOf(e) != api.Whole
}

func isSymbol(e api.Expr, text string) bool {
	return e.Kind == api.Symbol && e.Text == text
}
