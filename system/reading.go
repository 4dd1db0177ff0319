package system

import (
	"slices"

	"elenchus/api"
	"elenchus/front"
	"elenchus/pool"
)

// symbol is a symbol of the pool, and its number.
type symbol struct {
	api.Sym
	number int
}

// reading is what a text's commands have said so far.
type reading struct {
	pool       *pool.Pool
	scope      *front.Scope
	declared   map[string]symbol
	defined    map[string]int // names' terms
	now, next  []int
	conditions map[string]int // terms, by the keywords that may stand only once
	lemmas     []int
}

// command does what a command says; or it tells the place of what is wrong, and the error.
type command func(api.Expr) (int, api.Errno)

// note does what a keyword says of a definition's term; or it tells the place of what is wrong, and the error.
type note func(definition, int) (int, api.Errno)

func newReading() *reading {
	p, _ := pool.New(nil)
	return &reading{
		pool:       p,
		scope:      front.New(p),
		declared:   map[string]symbol{},
		defined:    map[string]int{},
		conditions: map[string]int{},
	}
}

// commands are found by the symbols with which they begin.
func (r *reading) commands() map[string]command {
	return map[string]command{
		"set-logic":   r.nothing,
		"set-info":    r.nothing,
		"declare-fun": r.declare,
		"define-fun":  r.define,
	}
}

// notes are found by their keywords.
func (r *reading) notes() map[string]note {
	return map[string]note{
		keyNone:  r.unnoted,
		keyNext:  r.pair,
		keyInit:  r.condition,
		keyTrans: r.condition,
		keyProp:  r.condition,
		keyLemma: r.lemma,
	}
}

// each goes through commands, up to the first with which something is wrong.
func (r *reading) each(list []api.Expr) (int, api.Errno) {
	commands := r.commands()
	for _, e := range list {
		do, ok := commands[headOf(e)]
		if !ok {
			return e.At, api.ErrForm
		}
		if at, err := do(e); err != api.OK {
			return at, err
		}
	}
	return 0, api.OK
}

func (r *reading) nothing(api.Expr) (int, api.Errno) {
	return 0, api.OK
}

func (r *reading) declare(e api.Expr) (int, api.Errno) {
	d, ok := declarationOf(e)
	if !ok {
		return e.At, api.ErrForm
	}
	n, err := r.pool.Declare(d.sym)
	if err != api.ErrForm && r.isDefined(d.sym.Name) {
		// A name that is taken counts ahead of too many symbols. Behind an error nothing is read:
		// that the symbol may stand in the pool is to be seen nowhere.
		err = api.ErrName
	}
	if err != api.OK {
		return d.name.At, err
	}
	r.declared[d.sym.Name] = symbol{d.sym, n}
	return 0, api.OK
}

func (r *reading) define(e api.Expr) (int, api.Errno) {
	d, ok := definitionOf(e)
	if !ok {
		return e.At, api.ErrForm
	}
	if r.isTaken(d.name.Text) {
		return d.name.At, api.ErrName
	}
	t, at, err := r.scope.Term(d.body)
	if err != api.OK {
		return at, err
	}
	if sort, _ := r.pool.Sort(t); sort != d.sort {
		return d.body.At, api.ErrSort
	}
	r.scope.Define(d.name.Text, t) // the name is free, and the term is there: it can't be refused
	r.defined[d.name.Text] = t
	return r.notes()[d.key](d, t)
}

// isDefined asks whether a name stands for a term, though it is no symbol's.
func (r *reading) isDefined(name string) bool {
	_, ok := r.defined[name]
	return ok || name == nameTrue || name == nameFalse
}

func (r *reading) isTaken(name string) bool {
	_, ok := r.declared[name]
	return ok || r.isDefined(name)
}

func (r *reading) unnoted(definition, int) (int, api.Errno) {
	return 0, api.OK
}

// pair lets the symbol that is the value stand for the next state's number of the one that is the body.
func (r *reading) pair(d definition, t int) (int, api.Errno) {
	term := r.pool.Rows().Terms[t]
	if term.Op != api.OpApp || len(term.Args) > 0 {
		return d.body.At, api.ErrForm
	}
	next, ok := r.declared[d.value.Text]
	switch {
	case !ok:
		return d.value.At, api.ErrName
	case next.Arity > 0, next.Sort != d.sort:
		return d.value.At, api.ErrSort
	case next.number == term.Sym, r.isOfState(next.number), r.isOfState(term.Sym):
		return d.value.At, api.ErrName
	}
	r.now = append(r.now, term.Sym)
	r.next = append(r.next, next.number)
	return 0, api.OK
}

// isOfState asks whether a symbol stands for a number of the state already, now or next.
func (r *reading) isOfState(sym int) bool {
	return slices.Contains(r.now, sym) || slices.Contains(r.next, sym)
}

func (r *reading) condition(d definition, t int) (int, api.Errno) {
	if r.has(d.key) {
		return d.at, api.ErrName
	}
	r.conditions[d.key] = t
	return 0, api.OK
}

func (r *reading) lemma(_ definition, t int) (int, api.Errno) {
	r.lemmas = append(r.lemmas, t)
	return 0, api.OK
}

// has asks whether a condition that may stand only once stands already.
func (r *reading) has(key string) bool {
	_, ok := r.conditions[key]
	return ok
}

// result is the system that the commands told, or what is wrong with them all together.
func (r *reading) result() (api.System, api.Errno) {
	if !r.has(keyInit) || !r.has(keyTrans) || !r.has(keyProp) {
		return api.System{}, api.ErrMiss
	}
	s := api.System{
		Terms:  r.pool.Rows(),
		Now:    r.now,
		Next:   r.next,
		Init:   r.conditions[keyInit],
		Trans:  r.conditions[keyTrans],
		Prop:   r.conditions[keyProp],
		Lemmas: r.lemmas,
	}
	if (checked{s}).looksAhead() {
		return api.System{}, api.ErrForm
	}
	return s, api.OK
}
