package linear

import (
	"elenchus/api"
	"elenchus/whole"
)

// areWhole tells of each term of rows that may be whether it is of Whole.
func areWhole(r api.Terms) []bool {
	out := make([]bool, len(r.Terms))
	for n, t := range r.Terms {
		switch t.Op {
		case api.OpNum, api.OpAdd, api.OpMul:
			out[n] = true
		case api.OpApp:
			out[n] = r.Syms[t.Sym].Sort == api.Whole
		case api.OpIte:
			out[n] = out[t.Args[1]] // its branches are of one sort
		}
	}
	return out
}

// areUnder tells of each term whether its sum is needed for this one's, its own among them.
func areUnder(terms []api.Term, t int) []bool {
	out := make([]bool, len(terms))
	out[t] = true
	for n := t; n >= 0; n-- {
		if !out[n] || terms[n].Op != api.OpAdd && terms[n].Op != api.OpMul {
			continue
		}
		for _, part := range terms[n].Args {
			out[part] = true
		}
	}
	return out
}

// sums are those of the terms that are asked for, by number. What a term's sum is made of must be asked for, too.
func sums(terms []api.Term, asked []bool) []api.Linear {
	out := make([]api.Linear, len(terms))
	for n, t := range terms {
		if asked[n] {
			makeIt := summand{n, t, out}.maker()
			out[n] = makeIt()
		}
	}
	return out
}

// summand is a term of Whole, and the sums of those ahead. What its methods make is new memory.
type summand struct {
	at    int
	term  api.Term
	ahead []api.Linear
}

// maker is what makes a sum of the term, by its Op.
func (s summand) maker() func() api.Linear {
	switch s.term.Op {
	case api.OpNum:
		return s.constant
	case api.OpAdd:
		return s.added
	case api.OpMul:
		return s.scaled
	}
	return s.once
}

func (s summand) constant() api.Linear {
	return api.Linear{Const: whole.Norm(s.term.Num)}
}

func (s summand) added() api.Linear {
	g := gather()
	for _, part := range s.term.Args {
		g.take(s.ahead[part], itself)
	}
	return g.sum()
}

func (s summand) scaled() api.Linear {
	return Scale(s.ahead[s.term.Args[0]], s.term.Num)
}

func (s summand) once() api.Linear {
	return api.Linear{Parts: []api.Part{{Coef: whole.Of(1), Term: s.at}}}
}
