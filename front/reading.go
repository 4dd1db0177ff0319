package front

import (
	"slices"

	"elenchus/api"
	"elenchus/numerals"
)

const (
	nameLet = "let"
	// No text has so many lists within one another. An expression that has may hold itself, and have no end.
	deepest = api.MaxText
)

// fault unwinds a reading: the place of the expression with which something is wrong, and the error.
type fault struct {
	at  int
	err api.Errno
}

// reading is a scope while expressions are read, up to the first with which something is wrong.
// Nobody else makes terms in its pool meanwhile: its rows are the pool's.
type reading struct {
	*Scope
	rows      api.Terms
	operators map[string]operator
	lets      map[string][]int // by name, the terms of the lets around, the innermost one's last
	deep      int              // how many lists are around
	asked     map[int]constant // by term
}

func readingOf(s *Scope) *reading {
	return &reading{
		Scope:     s,
		rows:      s.pool.Rows(),
		operators: operators(),
		lets:      map[string][]int{},
		asked:     map[int]constant{},
	}
}

// each reads expressions, in order.
func (r *reading) each(list []api.Expr) ([]int, int, api.Errno) {
	var terms []int
	for _, e := range list {
		t, at, err := r.one(e)
		if err != api.OK {
			return nil, at, err
		}
		terms = append(terms, t)
	}
	return terms, 0, api.OK
}

// one reads an expression.
func (r *reading) one(e api.Expr) (t, at int, err api.Errno) {
	defer func() {
		switch f := recover().(type) {
		case nil:
		case fault:
			t, at, err = 0, f.at, f.err
		default:
			panic(f) // nothing is wrong with the expression, but with the program
		}
	}()
	return r.term(e), 0, api.OK
}

// term is the number of an expression's term.
func (r *reading) term(e api.Expr) int {
	switch e.Kind {
	case api.Symbol:
		return r.name(e)
	case api.Numeral:
		return r.numeral(e)
	case api.List:
		return r.list(e)
	}
	panic(fault{e.At, api.ErrForm})
}

func (r *reading) terms(list []api.Expr) []int {
	out := make([]int, 0, len(list))
	for _, e := range list {
		out = append(out, r.term(e))
	}
	return out
}

// make makes a term of the pool.
func (r *reading) make(t api.Term) (int, api.Errno) {
	n, err := r.pool.Make(t)
	if err == api.OK && n == len(r.rows.Terms) {
		r.rows.Terms = append(r.rows.Terms, t)
	}
	return n, err
}

// made is the number of the one term that comes of an expression, its parts aside.
func (r *reading) made(e api.Expr, t api.Term) int {
	n, err := r.make(t)
	if err != api.OK {
		panic(fault{e.At, err})
	}
	return n
}

func (r *reading) numeral(e api.Expr) int {
	v, err := numerals.Parse(e.Text)
	if err != api.OK {
		panic(fault{e.At, err})
	}
	return r.made(e, api.Term{Op: api.OpNum, Num: v})
}

// name is what a symbol stands for where it begins no list.
func (r *reading) name(e api.Expr) int {
	switch e.Text {
	case nameTrue:
		return r.made(e, api.Term{Op: api.OpTrue})
	case nameFalse:
		return r.made(e, api.Term{Op: api.OpFalse})
	}
	if t, ok := r.given(e.Text); ok {
		return t
	}
	return r.made(e, api.Term{Op: api.OpApp, Sym: r.symbol(e)})
}

// given is the term to which a name was given by a let, or by Define.
func (r *reading) given(name string) (int, bool) {
	if terms := r.lets[name]; len(terms) > 0 {
		return terms[len(terms)-1], true
	}
	t, ok := r.names[name]
	return t, ok
}

// symbol is the number of the pool's symbol of an expression's name.
func (r *reading) symbol(e api.Expr) int {
	n := symbolOf(r.rows.Syms, e.Text)
	if n < 0 {
		panic(fault{e.At, api.ErrName})
	}
	return n
}

func (r *reading) list(e api.Expr) int {
	switch {
	case len(e.Parts) == 0 || e.Parts[0].Kind != api.Symbol:
		panic(fault{e.At, api.ErrForm})
	case r.deep == deepest:
		panic(fault{e.At, api.ErrDeep})
	}
	r.deep++
	t := r.begun(e)
	r.deep--
	return t
}

// begun is the term of a list that begins with a symbol.
func (r *reading) begun(e api.Expr) int {
	head, parts := e.Parts[0], e.Parts[1:]
	if head.Text == nameLet {
		return r.let(e)
	}
	if op, ok := r.operators[head.Text]; ok {
		c := &call{r, op, e.At, r.terms(parts)}
		return c.result()
	}
	// The first part stands ahead of the others: that there is nothing of its name counts ahead of what is wrong with them.
	sym := r.symbol(head)
	return r.made(e, api.Term{Op: api.OpApp, Sym: sym, Args: r.terms(parts)})
}

func (r *reading) let(e api.Expr) int {
	if !isLet(e) {
		panic(fault{e.At, api.ErrForm})
	}
	names := map[string]int{}
	for _, binding := range e.Parts[1].Parts {
		name, t := binding.Parts[0], r.term(binding.Parts[1])
		if _, twice := names[name.Text]; twice {
			panic(fault{name.At, api.ErrName})
		}
		names[name.Text] = t
	}
	return r.body(e.Parts[2], names)
}

// body is an expression's term where names are given to terms.
func (r *reading) body(e api.Expr, names map[string]int) int {
	for name, t := range names {
		r.lets[name] = append(r.lets[name], t)
	}
	body := r.term(e)
	for name := range names {
		around := r.lets[name]
		r.lets[name] = around[:len(around)-1]
	}
	return body
}

// isLet asks whether a list that begins with let has the form of one.
func isLet(e api.Expr) bool {
	return len(e.Parts) == 3 && e.Parts[1].Kind == api.List && len(e.Parts[1].Parts) > 0 &&
		!slices.ContainsFunc(e.Parts[1].Parts, isNoBinding)
}

func isNoBinding(e api.Expr) bool {
	return e.Kind != api.List || len(e.Parts) != 2 || e.Parts[0].Kind != api.Symbol
}
