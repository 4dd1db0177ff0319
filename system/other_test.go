package system_test

import (
	"slices"
	"strings"

	"elenchus/api"
	"elenchus/front"
	"elenchus/pool"
	"elenchus/sexp"
)

// other reads texts in another way than the program: commands are held against patterns, and behind
// the first thing that is wrong nothing is done any more.
type other struct {
	pool  *pool.Pool
	scope *front.Scope
	names map[string]string // what has a name: "symbol", "name" or "constant"
	found map[string][]int  // numbers of terms, by keyword; of pairs those of symbols
	at    int
	err   api.Errno
}

func newOther() *other {
	p, _ := pool.New(nil)
	return &other{pool: p, scope: front.New(p), names: map[string]string{"true": "constant", "false": "constant"}, found: map[string][]int{}}
}

// fail tells whether something is wrong, now or ahead.
func (o *other) fail(wrong bool, at int, err api.Errno) bool {
	if wrong && o.err == api.OK {
		o.at, o.err = at, err
	}
	return o.err != api.OK
}

// pattern is a text as an expression.
func pattern(text string) api.Expr {
	list, _, err := sexp.Read(text)
	if err != api.OK || len(list) != 1 {
		panic("no pattern: " + text)
	}
	return list[0]
}

// matches holds an expression against a pattern, in which $any, $symbol, $numeral and $sort stand for such.
func matches(e, p api.Expr) bool {
	switch p.Text {
	case "$any":
		return true
	case "$symbol":
		return e.Kind == api.Symbol
	case "$numeral":
		return e.Kind == api.Numeral
	case "$sort":
		return e.Kind == api.Symbol && (e.Text == "Int" || e.Text == "Bool")
	}
	return e.Kind == p.Kind && e.Text == p.Text && slices.EqualFunc(e.Parts, p.Parts, matches)
}

// matched is the first of some patterns, by its number; below 0 there is none.
func matched(e api.Expr, patterns ...string) int {
	return slices.IndexFunc(patterns, func(p string) bool { return matches(e, pattern(p)) })
}

var keywords = []string{"next", "init", "trans", "lemma", "invar-property"}

// command goes on by one command.
func (o *other) command(e api.Expr) {
	if e.Kind == api.List && len(e.Parts) > 0 && (matches(e.Parts[0], pattern("set-logic")) || matches(e.Parts[0], pattern("set-info"))) {
		return
	}
	for n := range 7 {
		if matches(e, pattern("(declare-fun $symbol ("+strings.Repeat(" Int", n)+") $sort)")) {
			o.declare(e, n)
			return
		}
	}
	n := matched(e,
		"(define-fun $symbol () $sort (! $any :next $symbol))", "(define-fun $symbol () Bool (! $any :init true))",
		"(define-fun $symbol () Bool (! $any :trans true))", "(define-fun $symbol () Bool (! $any :lemma true))",
		"(define-fun $symbol () Bool (! $any :invar-property $numeral))", "(define-fun $symbol () $sort $any)")
	if o.fail(n < 0, e.At, api.ErrForm) {
		return
	}
	body := e.Parts[4]
	if n < 5 {
		o.define(e, body.Parts[1], keywords[n], body.Parts[3])
		return
	}
	if !o.fail(body.Kind == api.List && len(body.Parts) > 0 && matches(body.Parts[0], pattern("!")), e.At, api.ErrForm) {
		o.define(e, body, "", api.Expr{})
	}
}

func sortNamed(name string) int {
	return map[string]int{"Bool": api.Bool, "Int": api.Whole}[name]
}

func (o *other) declare(e api.Expr, arity int) {
	name := e.Parts[1]
	_, taken := o.names[name.Text]
	switch {
	case o.fail(name.Text == "" || arity > 4, name.At, api.ErrForm):
	case o.fail(taken, name.At, api.ErrName):
	default:
		_, err := o.pool.Declare(named(name.Text, arity, sortNamed(e.Parts[3].Text)))
		o.fail(err != api.OK, name.At, err)
		o.names[name.Text] = "symbol"
	}
}

func (o *other) define(e, body api.Expr, key string, val api.Expr) {
	name := e.Parts[1]
	_, taken := o.names[name.Text]
	if o.fail(taken, name.At, api.ErrName) {
		return
	}
	t, at, err := o.scope.Term(body)
	if o.fail(err != api.OK, at, err) {
		return
	}
	sort, _ := o.pool.Sort(t)
	if o.fail(sort != sortNamed(e.Parts[3].Text), body.At, api.ErrSort) {
		return
	}
	o.names[name.Text] = "name"
	o.scope.Define(name.Text, t)
	switch {
	case key == "next":
		o.pair(t, sort, body.At, val)
	case key != "" && key != "lemma" && len(o.found[key]) > 0:
		o.fail(true, e.At, api.ErrName)
	default:
		o.found[key] = append(o.found[key], t)
	}
}

func (o *other) pair(t, sort, at int, val api.Expr) {
	rows := o.pool.Rows()
	now := rows.Terms[t]
	if o.fail(now.Op != api.OpApp || len(now.Args) > 0, at, api.ErrForm) || o.fail(o.names[val.Text] != "symbol", val.At, api.ErrName) {
		return
	}
	next := slices.IndexFunc(rows.Syms, func(s api.Sym) bool { return s.Name == val.Text })
	if o.fail(rows.Syms[next].Arity > 0 || rows.Syms[next].Sort != sort, val.At, api.ErrSort) {
		return
	}
	// Each symbol is put in once; so it is found, if one stands there twice.
	stand := append(slices.Clone(o.found["next"]), now.Sym, next)
	slices.Sort(stand)
	if !o.fail(len(slices.Compact(stand)) < len(o.found["next"])+2, val.At, api.ErrName) {
		o.found["next"] = append(o.found["next"], now.Sym, next)
	}
}

// read is what the document asks of Read.
func (o *other) read(text string) (api.System, int, api.Errno) {
	list, at, err := sexp.Read(text)
	if o.fail(err != api.OK, at, err) {
		return api.System{}, o.at, o.err
	}
	for _, e := range list {
		if o.err == api.OK {
			o.command(e)
		}
	}
	for _, key := range []string{"init", "trans", "invar-property"} {
		o.fail(len(o.found[key]) == 0, len(text), api.ErrMiss)
	}
	if o.err != api.OK {
		return api.System{}, o.at, o.err
	}
	s := api.System{Terms: o.pool.Rows(), Lemmas: o.found["lemma"], Init: o.found["init"][0], Trans: o.found["trans"][0], Prop: o.found["invar-property"][0]}
	for i, sym := range o.found["next"] {
		if i%2 == 0 {
			s.Now = append(s.Now, sym)
		} else {
			s.Next = append(s.Next, sym)
		}
	}
	for _, t := range append([]int{s.Init, s.Prop}, s.Lemmas...) {
		if o.fail(needs(s, t), len(text), api.ErrForm) {
			return api.System{}, o.at, o.err
		}
	}
	return s, 0, api.OK
}

// needs asks whether a term needs a Next symbol.
func needs(s api.System, t int) bool {
	what := s.Terms.Terms[t]
	return what.Op == api.OpApp && slices.Contains(s.Next, what.Sym) || slices.ContainsFunc(what.Args, func(part int) bool { return needs(s, part) })
}

// sortOf is a term's sort.
func sortOf(s api.System, t int) int {
	what := s.Terms.Terms[t]
	switch what.Op {
	case api.OpApp:
		return s.Terms.Syms[what.Sym].Sort
	case api.OpIte:
		return sortOf(s, what.Args[2])
	case api.OpNum, api.OpAdd, api.OpMul:
		return api.Whole
	}
	return api.Bool
}

// checked is what the document asks of Check.
func checked(s api.System) api.Errno {
	if err := pool.Check(s.Terms); err != api.OK {
		return err
	}
	faults := map[api.Errno]bool{api.ErrCount: len(s.Now) != len(s.Next)}
	stand := map[int]int{}
	for _, sym := range append(slices.Clone(s.Now), s.Next...) {
		stand[sym]++
		faults[api.ErrName] = faults[api.ErrName] || stand[sym] > 1
		if sym < 0 || sym >= len(s.Terms.Syms) {
			return api.ErrArg
		}
		faults[api.ErrSort] = faults[api.ErrSort] || s.Terms.Syms[sym].Arity != 0
	}
	for i := range min(len(s.Now), len(s.Next)) {
		faults[api.ErrSort] = faults[api.ErrSort] || s.Terms.Syms[s.Now[i]].Sort != s.Terms.Syms[s.Next[i]].Sort
	}
	for i, t := range append([]int{s.Trans, s.Init, s.Prop}, s.Lemmas...) {
		if t < 0 || t >= len(s.Terms.Terms) {
			return api.ErrArg
		}
		faults[api.ErrSort] = faults[api.ErrSort] || sortOf(s, t) != api.Bool
		faults[api.ErrForm] = faults[api.ErrForm] || i > 0 && needs(s, t)
	}
	for _, err := range []api.Errno{api.ErrCount, api.ErrName, api.ErrSort, api.ErrForm} {
		if faults[err] {
			return err
		}
	}
	return api.OK
}
