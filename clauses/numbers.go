package clauses

import (
	"elenchus/api"
	"elenchus/atoms"
)

func (c *Coder) equal(t int) int {
	args := c.rows.terms[t].Args
	below, above := c.compared(args[0], args[1]), c.compared(args[1], args[0])
	v := c.variable(ofTerm(t))
	c.allOf(v, below, above)
	return v
}

func (c *Coder) atMost(t int) int {
	args := c.rows.terms[t].Args
	return c.compared(args[0], args[1])
}

// compared is the literal of: a term of Whole is at most another one.
func (c *Coder) compared(a, b int) int {
	return c.most(c.rows.less(a, b))
}

// most finds or makes the literal of: a sum, of which all parts may be, is at most 0.
func (c *Coder) most(l api.Linear) int {
	if c.table == nil {
		c.table = atoms.New()
	}
	v := truth
	n, is, _ := c.table.Ask(l)
	if n >= 0 {
		v = c.bound(n)
		c.choose(l.Parts)
	}
	if !is {
		return -v
	}
	return v
}

// bound finds or makes an atom's variable. Atoms have numbers in the order in which they were asked for first.
func (c *Coder) bound(n int) int {
	if n == len(c.bounds) {
		c.bounds = append(c.bounds, c.variable(ofAtom(n)))
	}
	return c.bounds[n]
}

// choose ties each OpIte among a row's parts to the number that its own parts make.
func (c *Coder) choose(parts []api.Part) {
	for _, p := range parts {
		t := c.rows.terms[p.Term]
		if t.Op != api.OpIte || c.tied[p.Term] {
			continue
		}
		// It counts as tied at once, since the rows by which it is tied have it, too.
		c.tied[p.Term] = true
		condition := c.lit(t.Args[0])
		c.tie(-condition, p.Term, t.Args[1])
		c.tie(condition, p.Term, t.Args[2])
	}
}

// tie makes two terms have one number, unless a literal holds.
func (c *Coder) tie(unless, a, b int) {
	below, above := c.compared(a, b), c.compared(b, a)
	c.clause(unless, below)
	c.clause(unless, above)
}
