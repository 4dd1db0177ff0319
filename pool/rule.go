package pool

import (
	"slices"

	"elenchus/api"
	"elenchus/whole"
)

// rule is what an Op asks of its terms, and what it makes of them.
type rule struct {
	least, most int  // how many parts
	part        int  // their sort
	sort        int  // the term's
	num, sym    bool // whether Num and Sym say something
}

// ruleOf is an Op's rule, where the Op alone tells it: how many parts OpApp has, and of
// which sort it is, its symbol tells; of OpIte this is the first part's, and the second
// one tells the other sorts.
func ruleOf(op int) (rule, bool) {
	switch op {
	case api.OpTrue, api.OpFalse:
		return rule{sort: api.Bool}, true
	case api.OpNum:
		return rule{sort: api.Whole, num: true}, true
	case api.OpApp:
		return rule{part: api.Whole, sym: true}, true
	case api.OpNot:
		return rule{least: 1, most: 1, part: api.Bool, sort: api.Bool}, true
	case api.OpAnd, api.OpOr:
		return rule{least: 2, most: api.MaxArgs, part: api.Bool, sort: api.Bool}, true
	case api.OpIff:
		return rule{least: 2, most: 2, part: api.Bool, sort: api.Bool}, true
	case api.OpIte:
		return rule{least: 3, most: 3, part: api.Bool}, true
	case api.OpEq, api.OpLe:
		return rule{least: 2, most: 2, part: api.Whole, sort: api.Bool}, true
	case api.OpAdd:
		return rule{least: 2, most: api.MaxArgs, part: api.Whole, sort: api.Whole}, true
	case api.OpMul:
		return rule{least: 1, most: 1, part: api.Whole, sort: api.Whole, num: true}, true
	}
	return rule{}, false
}

// fault is something that may be wrong with a term, and the error that tells so.
type fault struct {
	of  func(api.Term) bool
	err api.Errno
}

// faults are in the order in which they count. Each is asked only where those ahead
// of it aren't there, so that what it looks up is there.
func (p *Pool) faults() [5]fault {
	return [...]fault{
		{hasWrongForm, api.ErrForm},
		{p.hasNoSymbol, api.ErrName},
		{p.hasNoPart, api.ErrArg},
		{p.hasWrongCount, api.ErrCount},
		{p.hasWrongSort, api.ErrSort},
	}
}

// wrong is the first fault's error.
func (p *Pool) wrong(t api.Term) api.Errno {
	for _, f := range p.faults() {
		if f.of(t) {
			return f.err
		}
	}
	return api.OK
}

func hasWrongForm(t api.Term) bool {
	r, ok := ruleOf(t.Op)
	return !ok || !r.num && whole.Sign(t.Num) != 0 || !r.sym && t.Sym != 0
}

func (p *Pool) hasNoSymbol(t api.Term) bool {
	return t.Op == api.OpApp && (t.Sym < 0 || t.Sym >= len(p.syms))
}

func (p *Pool) hasNoPart(t api.Term) bool {
	return slices.ContainsFunc(t.Args, p.isNoTerm)
}

func (p *Pool) isNoTerm(n int) bool {
	return n < 0 || n >= len(p.terms)
}

func (p *Pool) hasWrongCount(t api.Term) bool {
	if t.Op == api.OpApp {
		return len(t.Args) != p.syms[t.Sym].Arity
	}
	r, _ := ruleOf(t.Op)
	return len(t.Args) < r.least || len(t.Args) > r.most
}

func (p *Pool) hasWrongSort(t api.Term) bool {
	for i, part := range t.Args {
		if p.sorts[part] != p.partSort(t, i) {
			return true
		}
	}
	return false
}

// partSort is the sort that the part at a place should be of.
func (p *Pool) partSort(t api.Term, place int) int {
	if t.Op == api.OpIte && place > 0 {
		return p.sorts[t.Args[1]]
	}
	r, _ := ruleOf(t.Op)
	return r.part
}

// sortOf is the sort of a term that may be.
func (p *Pool) sortOf(t api.Term) int {
	switch t.Op {
	case api.OpApp:
		return p.syms[t.Sym].Sort
	case api.OpIte:
		return p.sorts[t.Args[1]]
	}
	r, _ := ruleOf(t.Op)
	return r.sort
}

// isNoSymbol asks whether a symbol alone, whatever others there are, may not be.
func isNoSymbol(s api.Sym) bool {
	return s.Name == "" || s.Arity < 0 || s.Arity > api.MaxArity || s.Sort != api.Bool && s.Sort != api.Whole
}
