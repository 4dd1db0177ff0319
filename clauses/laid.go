package clauses

import (
	"slices"

	"elenchus/api"
)

// truth is the literal of the first variable, which always holds.
const truth = 1

// mean is what a variable means: the term of that number, or, that being -1, the atom of that number, if it isn't -1, too.
type mean struct {
	term, atom int
}

func ofTerm(t int) mean {
	return mean{term: t, atom: -1}
}

func ofAtom(n int) mean {
	return mean{term: -1, atom: n}
}

// told is what is meant as it is told, by all atoms. It shares memory with the atom.
func (m mean) told(list []api.Atom) api.Mean {
	out := api.Mean{Term: m.term, Atom: api.Atom{Row: -1}}
	if m.atom >= 0 {
		out.Atom = list[m.atom]
	}
	return out
}

// variable makes one.
func (c *Coder) variable(m mean) int {
	c.means = append(c.means, m)
	return 1 + len(c.means)
}

// clause lays one of these literals, but none that holds anyway. Literals that can't hold are left out:
// no caller hands in such ones alone, so that no clause is empty.
func (c *Coder) clause(lits ...int) {
	var left []int
	for _, l := range lits {
		if l == truth || slices.Contains(left, -l) {
			return
		}
		if l != -truth && !slices.Contains(left, l) {
			left = append(left, l)
		}
	}
	c.clauses = append(c.clauses, left)
}

// allOf makes a literal hold just if all others do.
func (c *Coder) allOf(l int, others ...int) {
	some := []int{l}
	for i, other := range others {
		if !slices.Contains(others[:i], other) {
			c.clause(-l, other)
		}
		some = append(some, -other)
	}
	c.clause(some...)
}

// oneOf makes a literal hold just if one of two does: the first one, if the condition holds, else the second one.
func (c *Coder) oneOf(l, condition, first, second int) {
	c.clause(-l, -condition, first)
	c.clause(l, -condition, -first)
	c.clause(-l, condition, second)
	c.clause(l, condition, -second)
}
