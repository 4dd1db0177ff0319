package front

import (
	"elenchus/api"
	"elenchus/whole"
)

// call is a list that begins with an operator, its parts read: they are terms' numbers.
type call struct {
	*reading
	op    operator
	at    int // the list's place
	parts []int
}

// result is the list's term. How many parts there are is asked ahead of all else: so it counts,
// and no time is spent on each two of too many.
func (c *call) result() int {
	if n := len(c.parts); n < c.op.least || n > c.op.most {
		panic(fault{c.at, api.ErrCount})
	}
	return c.op.result(c)
}

// lay makes a term of the list. Those that were made of it ahead of one that may not be stay in the pool.
func (c *call) lay(t api.Term) int {
	n, err := c.make(t)
	if err != api.OK {
		panic(fault{c.at, c.counting(err)})
	}
	return n
}

// counting is the error that counts where a term can't be made: a wrong sort counts ahead of a pool
// that is full, even where it would show behind that.
func (c *call) counting(err api.Errno) api.Errno {
	if !c.op.fits(c) {
		return api.ErrSort
	}
	return err
}

func (c *call) term(op int, parts ...int) int {
	return c.lay(api.Term{Op: op, Args: parts})
}

func (c *call) number(v api.Int) int {
	return c.lay(api.Term{Op: api.OpNum, Num: v})
}

func (c *call) scaled(k api.Int, t int) int {
	return c.lay(api.Term{Op: api.OpMul, Num: k, Args: []int{t}})
}

func (c *call) negated(t int) int {
	return c.scaled(whole.Of(-1), t)
}

// joined is one part as it stands, and of more of them a term.
func (c *call) joined(op int, parts ...int) int {
	if len(parts) == 1 {
		return parts[0]
	}
	return c.term(op, parts...)
}

// chained says of each part and the one behind it that something holds.
func (c *call) chained(holds func(a, b int) int) int {
	var links []int
	for i, b := range c.parts[1:] {
		links = append(links, holds(c.parts[i], b))
	}
	return c.joined(api.OpAnd, links...)
}

func (c *call) same(a, b int) int {
	if c.isBool(a) {
		return c.term(api.OpIff, a, b)
	}
	return c.term(api.OpEq, a, b)
}

func (c *call) lessOrSame(a, b int) int {
	return c.term(api.OpLe, a, b)
}

func (c *call) greaterOrSame(a, b int) int {
	return c.lessOrSame(b, a)
}

func (c *call) less(a, b int) int {
	one := c.number(whole.Of(1))
	return c.term(api.OpLe, c.term(api.OpAdd, a, one), b)
}

func (c *call) greater(a, b int) int {
	return c.less(b, a)
}
