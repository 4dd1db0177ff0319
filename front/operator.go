package front

import (
	"math"
	"slices"

	"elenchus/api"
	"elenchus/whole"
)

// operator is how many parts the lists of a name have, whether these are of the sorts that
// they should be of, and the term that comes of them.
type operator struct {
	least, most int
	fits        func(*call) bool
	result      func(*call) int
}

// operators are found by their names.
func operators() map[string]operator {
	return map[string]operator{
		"not":      {1, 1, (*call).areBool, (*call).not},
		"and":      {1, api.MaxArgs, (*call).areBool, (*call).and},
		"or":       {1, api.MaxArgs, (*call).areBool, (*call).or},
		"=>":       {2, api.MaxArgs, (*call).areBool, (*call).implies},
		"xor":      {2, math.MaxInt, (*call).areBool, (*call).xor},
		"=":        {2, api.MaxArgs + 1, (*call).areAlike, (*call).equal},
		"distinct": {2, mostApart(), (*call).areAlike, (*call).distinct},
		"ite":      {3, 3, (*call).areBranches, (*call).ite},
		"+":        {1, api.MaxArgs, (*call).areWhole, (*call).plus},
		"-":        {1, api.MaxArgs, (*call).areWhole, (*call).minus},
		"*":        {1, math.MaxInt, (*call).areWhole, (*call).times},
		"<=":       {2, api.MaxArgs + 1, (*call).areWhole, (*call).atMost},
		"<":        {2, api.MaxArgs + 1, (*call).areWhole, (*call).below},
		">=":       {2, api.MaxArgs + 1, (*call).areWhole, (*call).atLeast},
		">":        {2, api.MaxArgs + 1, (*call).areWhole, (*call).above},
	}
}

// mostApart is of how many parts each two make no more terms than one OpAnd takes.
func mostApart() int {
	n := 2
	for (n+1)*n/2 <= api.MaxArgs {
		n++
	}
	return n
}

// isBool asks for the sort of a term that is there.
func (c *call) isBool(t int) bool {
	sort, _ := c.pool.Sort(t)
	return sort == api.Bool
}

func (c *call) isWhole(t int) bool {
	return !c.isBool(t)
}

func (c *call) areBool() bool {
	return !slices.ContainsFunc(c.parts, c.isWhole)
}

func (c *call) areWhole() bool {
	return !slices.ContainsFunc(c.parts, c.isBool)
}

func (c *call) areAlike() bool {
	return c.areBool() || c.areWhole()
}

func (c *call) areBranches() bool {
	return c.isBool(c.parts[0]) && c.isBool(c.parts[1]) == c.isBool(c.parts[2])
}

func (c *call) not() int {
	return c.term(api.OpNot, c.parts...)
}

func (c *call) and() int {
	return c.joined(api.OpAnd, c.parts...)
}

func (c *call) or() int {
	return c.joined(api.OpOr, c.parts...)
}

func (c *call) implies() int {
	last := len(c.parts) - 1
	var sides []int
	for _, t := range c.parts[:last] {
		sides = append(sides, c.term(api.OpNot, t))
	}
	return c.term(api.OpOr, append(sides, c.parts[last])...)
}

func (c *call) xor() int {
	t := c.parts[0]
	for _, other := range c.parts[1:] {
		t = c.term(api.OpNot, c.term(api.OpIff, t, other))
	}
	return t
}

func (c *call) equal() int {
	return c.chained(c.same)
}

func (c *call) distinct() int {
	var pairs []int
	for i, a := range c.parts {
		for _, b := range c.parts[i+1:] {
			pairs = append(pairs, c.term(api.OpNot, c.same(a, b)))
		}
	}
	return c.joined(api.OpAnd, pairs...)
}

func (c *call) ite() int {
	return c.term(api.OpIte, c.parts...)
}

func (c *call) plus() int {
	return c.joined(api.OpAdd, c.parts...)
}

func (c *call) minus() int {
	if len(c.parts) == 1 {
		return c.negated(c.parts[0])
	}
	sides := []int{c.parts[0]}
	for _, t := range c.parts[1:] {
		sides = append(sides, c.negated(t))
	}
	return c.term(api.OpAdd, sides...)
}

func (c *call) times() int {
	if len(c.parts) == 1 {
		return c.parts[0]
	}
	if !c.areWhole() {
		panic(fault{c.at, api.ErrSort})
	}
	product, others := c.factors()
	switch len(others) {
	case 0:
		return c.number(product)
	case 1:
		return c.scaled(product, others[0])
	}
	panic(fault{c.at, api.ErrPower})
}

// factors are the product of the parts that are fixed, and the others.
func (c *call) factors() (api.Int, []int) {
	product := whole.Of(1)
	var others []int
	for _, t := range c.parts {
		if n := c.constant(t); n.fixed {
			product = whole.Mul(product, n.value)
		} else {
			others = append(others, t)
		}
	}
	return product, others
}

func (c *call) atMost() int {
	return c.chained(c.lessOrSame)
}

func (c *call) below() int {
	return c.chained(c.less)
}

func (c *call) atLeast() int {
	return c.chained(c.greaterOrSame)
}

func (c *call) above() int {
	return c.chained(c.greater)
}
