package value

import (
	"slices"

	"elenchus/api"
	"elenchus/whole"
)

// meaning is a term of rows that may be, the tables by which it is read, and its parts'
// values. What its methods make is memory of its own: no two values share any.
type meaning struct {
	syms   []api.Sym
	tables []api.Table
	term   api.Term
	parts  []api.Int
}

// partsOf are the values of a term's parts.
func partsOf(t api.Term, values []api.Int) []api.Int {
	parts := make([]api.Int, 0, len(t.Args))
	for _, part := range t.Args {
		parts = append(parts, values[part])
	}
	return parts
}

// value is the term's value.
func (m *meaning) value() api.Int {
	makeIt := m.maker()
	return makeIt()
}

// maker is what the term's Op makes of its parts' values.
func (m *meaning) maker() func() api.Int {
	switch m.term.Op {
	case api.OpTrue, api.OpAnd: // of no parts all are true
		return m.all
	case api.OpFalse, api.OpOr: // of no parts none is true
		return m.some
	case api.OpNum:
		return m.number
	case api.OpApp:
		return m.told
	case api.OpNot:
		return m.not
	case api.OpIff, api.OpEq:
		return m.equal
	case api.OpIte:
		return m.chosen
	case api.OpLe:
		return m.atMost
	case api.OpAdd:
		return m.sum
	}
	return m.product // OpMul: rows that may be have no other Op
}

func (m *meaning) all() api.Int {
	return truth(!slices.ContainsFunc(m.parts, isFalse))
}

func (m *meaning) some() api.Int {
	return truth(slices.ContainsFunc(m.parts, isTrue))
}

func (m *meaning) not() api.Int {
	return truth(isFalse(m.parts[0]))
}

func (m *meaning) equal() api.Int {
	return truth(same(m.parts[0], m.parts[1]))
}

func (m *meaning) atMost() api.Int {
	return truth(whole.Cmp(m.parts[0], m.parts[1]) <= 0)
}

func (m *meaning) chosen() api.Int {
	if isTrue(m.parts[0]) {
		return whole.Norm(m.parts[1])
	}
	return whole.Norm(m.parts[2])
}

func (m *meaning) number() api.Int {
	return whole.Norm(m.term.Num)
}

func (m *meaning) told() api.Int {
	return Tell(m.syms[m.term.Sym], m.tables[m.term.Sym], m.parts)
}

func (m *meaning) sum() api.Int {
	total := whole.Of(0)
	for _, part := range m.parts {
		total = whole.Add(total, part)
	}
	return total
}

func (m *meaning) product() api.Int {
	return whole.Mul(m.term.Num, m.parts[0])
}

// truth is a truth as a number.
func truth(holds bool) api.Int {
	if holds {
		return whole.Of(1)
	}
	return whole.Of(0)
}

func isTrue(a api.Int) bool {
	return whole.Sign(a) != 0
}

func isFalse(a api.Int) bool {
	return whole.Sign(a) == 0
}

func same(a, b api.Int) bool {
	return whole.Cmp(a, b) == 0
}
