package branch

import (
	"elenchus/api"
	"elenchus/ratio"
	"elenchus/whole"
)

// tight are rows and bounds that ask the same of whole numbers, and more of fractions: what goes into all
// that a row's variables are taken times goes into its sum, too, so that bounds by it may be rounded. They
// are memory of their own.
func tight(rows []api.Linear, bounds []api.Bound) ([]api.Linear, []api.Bound) {
	divisors := make([]api.Int, 0, len(rows))
	ownRows := make([]api.Linear, 0, len(rows))
	for _, l := range rows {
		by := common(l)
		divisors = append(divisors, by)
		ownRows = append(ownRows, divided(l, by))
	}
	ownBounds := make([]api.Bound, 0, len(bounds))
	for _, b := range bounds {
		ownBounds = append(ownBounds, rounded(b, divisors[b.Row]))
	}
	return ownRows, ownBounds
}

// common is the greatest number that goes into all that a row's variables are taken times; 1, if it has none.
func common(l api.Linear) api.Int {
	out := api.Int{}
	for _, p := range l.Parts {
		out = whole.Gcd(out, p.Coef)
	}
	if whole.Sign(out) == 0 {
		return whole.Of(1)
	}
	return out
}

// divided is a row by a number that goes into it.
func divided(l api.Linear, by api.Int) api.Linear {
	out := api.Linear{}
	for _, p := range l.Parts {
		coef, _, _ := whole.Div(p.Coef, by)
		out.Parts = append(out.Parts, api.Part{Coef: coef, Term: p.Term})
	}
	return out
}

// rounded is a bound by a number: the nearest whole one that asks no less.
func rounded(b api.Bound, by api.Int) api.Bound {
	round := ratio.Ceil
	if b.Upper {
		round = ratio.Floor
	}
	val, _ := ratio.New(b.Val, by)
	return api.Bound{Row: b.Row, Upper: b.Upper, Val: round(val)}
}
