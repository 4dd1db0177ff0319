package linear

import (
	"maps"
	"slices"

	"elenchus/api"
	"elenchus/whole"
)

// gathering is what parts come to while they are summed up. All its numbers are memory of its own.
type gathering struct {
	times map[int]api.Int // by term
	rest  api.Int
}

func gather() *gathering {
	return &gathering{times: map[int]api.Int{}}
}

// take puts in what comes of each number of a sum, or of any list of parts. That may share
// memory with the list: what it is added to is new memory.
func (g *gathering) take(l api.Linear, each func(api.Int) api.Int) {
	for _, p := range l.Parts {
		g.times[p.Term] = whole.Add(g.times[p.Term], each(p.Coef))
	}
	g.rest = whole.Add(g.rest, each(l.Const))
}

// sum is what was put in. Nothing may be put in any more.
func (g *gathering) sum() api.Linear {
	out := api.Linear{Const: g.rest}
	for _, t := range slices.Sorted(maps.Keys(g.times)) {
		if whole.Sign(g.times[t]) != 0 {
			out.Parts = append(out.Parts, api.Part{Coef: g.times[t], Term: t})
		}
	}
	return out
}

// itself is a number as it stands. It shares memory with it.
func itself(a api.Int) api.Int {
	return a
}

// number is what other numbers are taken times, or divided by.
type number api.Int

func (n number) product(a api.Int) api.Int {
	return whole.Mul(a, api.Int(n))
}

// quotient is rounded down. The number must be above 0.
func (n number) quotient(a api.Int) api.Int {
	q, _, _ := whole.Div(a, api.Int(n))
	return q
}
