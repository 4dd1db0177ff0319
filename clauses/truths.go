package clauses

import (
	"elenchus/api"
)

// lit finds or makes the literal of a term of Bool.
func (c *Coder) lit(t int) int {
	l, ok := c.lits[t]
	if !ok {
		code := c.way(c.rows.terms[t].Op)
		l = code(t)
		c.lits[t] = l
	}
	return l
}

// way is what a term of Bool is coded by, as its Op says.
func (c *Coder) way(op int) func(int) int {
	switch op {
	case api.OpTrue:
		return c.holds
	case api.OpFalse:
		return c.fails
	case api.OpNot:
		return c.not
	case api.OpAnd:
		return c.and
	case api.OpOr:
		return c.or
	case api.OpIff:
		return c.iff
	case api.OpIte:
		return c.ite
	case api.OpEq:
		return c.equal
	case api.OpLe:
		return c.atMost
	}
	return c.free // OpApp: no other Op of rows that may be is of Bool
}

// parts are the literals of a term's parts.
func (c *Coder) parts(t int) []int {
	var out []int
	for _, part := range c.rows.terms[t].Args {
		out = append(out, c.lit(part))
	}
	return out
}

func (c *Coder) holds(int) int {
	return truth
}

func (c *Coder) fails(int) int {
	return -truth
}

func (c *Coder) free(t int) int {
	return c.variable(ofTerm(t))
}

func (c *Coder) not(t int) int {
	return -c.parts(t)[0]
}

func (c *Coder) and(t int) int {
	parts := c.parts(t)
	v := c.variable(ofTerm(t))
	c.allOf(v, parts...)
	return v
}

// or fails just if all of what its parts aren't holds.
func (c *Coder) or(t int) int {
	var opposites []int
	for _, part := range c.parts(t) {
		opposites = append(opposites, -part)
	}
	v := c.variable(ofTerm(t))
	c.allOf(-v, opposites...)
	return v
}

// iff is the second part, if the first one holds, else what the second one isn't.
func (c *Coder) iff(t int) int {
	parts := c.parts(t)
	v := c.variable(ofTerm(t))
	c.oneOf(v, parts[0], parts[1], -parts[1])
	return v
}

func (c *Coder) ite(t int) int {
	parts := c.parts(t)
	v := c.variable(ofTerm(t))
	c.oneOf(v, parts[0], parts[1], parts[2])
	return v
}
