package front

import (
	"elenchus/api"
	"elenchus/whole"
)

// constant is whether a term is fixed, and its value, if it is.
type constant struct {
	fixed bool
	value api.Int
}

// constant is kept for each term that is asked: terms share their parts, and would ask them over and over.
func (r *reading) constant(t int) constant {
	known, ok := r.asked[t]
	if !ok {
		known = r.constantOf(r.rows.Terms[t])
		r.asked[t] = known
	}
	return known
}

func (r *reading) constantOf(t api.Term) constant {
	switch t.Op {
	case api.OpNum:
		return constant{true, t.Num}
	case api.OpAdd:
		return r.sumOf(t.Args)
	case api.OpMul:
		if part := r.constant(t.Args[0]); part.fixed {
			return constant{true, whole.Mul(t.Num, part.value)}
		}
	}
	return constant{}
}

func (r *reading) sumOf(parts []int) constant {
	sum := constant{fixed: true}
	for _, t := range parts {
		part := r.constant(t)
		if !part.fixed {
			return constant{}
		}
		sum.value = whole.Add(sum.value, part.value)
	}
	return sum
}
