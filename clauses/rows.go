package clauses

import (
	"elenchus/api"
	"elenchus/linear"
	"elenchus/pool"
)

// rows are a coder's, in memory of their own: of each term itself, its sort, and its sum, if it is of Whole.
type rows struct {
	terms []api.Term
	sorts []int
	sums  []api.Linear
}

// rowsOf are those that are given, if they may be.
func rowsOf(r api.Terms) (rows, api.Errno) {
	sums, err := linear.All(r)
	if err != api.OK {
		return rows{}, err
	}
	out := rows{sums: sums}
	// Made again from rows that may be, a pool has the same; it tells the sorts.
	p, _ := pool.New(r.Syms)
	for _, t := range r.Terms {
		n, _ := p.Make(t)
		sort, _ := p.Sort(n)
		out.sorts = append(out.sorts, sort)
	}
	out.terms = p.Rows().Terms
	return out, api.OK
}

// have asks whether a number is a term's.
func (r *rows) have(t int) bool {
	return t >= 0 && t < len(r.terms)
}

// isNoPart asks whether a sum that is given may not have a part: sums are of terms that aren't sums themselves.
func (r *rows) isNoPart(p api.Part) bool {
	if !r.have(p.Term) || r.sorts[p.Term] != api.Whole {
		return true
	}
	op := r.terms[p.Term].Op
	return op != api.OpApp && op != api.OpIte
}

// less is a term's sum, less another one's.
func (r *rows) less(a, b int) api.Linear {
	minusOne := api.Int{Neg: true, Abs: api.Nat{1}}
	return linear.Add(r.sums[a], linear.Scale(r.sums[b], minusOne))
}
