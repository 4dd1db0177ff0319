package tableau

import (
	"maps"
	"slices"

	"elenchus/api"
	"elenchus/ratio"
	"elenchus/whole"
)

// row is an equation: its columns, by number, each so many times, come to 0. None is there 0 times. It
// tells any one of them by the others, so that it stays as it is where two are exchanged.
type row map[int]api.Int

// columns are those by which the row tells n, rising.
func (r row) columns(n int) []int {
	isIt := func(c int) bool { return c == n }
	return slices.DeleteFunc(slices.Sorted(maps.Keys(r)), isIt)
}

// side tells whether n rises with a column (1), or falls (-1).
func (r row) side(n, column int) int {
	return -whole.Sign(r[n]) * whole.Sign(r[column])
}

// slope tells by how much n rises where a column rises by 1.
func (r row) slope(n, column int) api.Rat {
	out, _ := ratio.New(whole.Neg(r[column]), r[n])
	return out
}

// take adds what another row comes to, so many times.
func (r row) take(other row, times api.Int) {
	for c, coef := range other {
		sum := whole.Add(r[c], whole.Mul(coef, times))
		if whole.Sign(sum) == 0 {
			delete(r, c)
			continue
		}
		r[c] = sum
	}
}

// become makes the row another one, told by numbers that are as small as may be: else they would grow
// with each exchange.
func (r row) become(other row) {
	clear(r)
	common := other.common()
	for c, coef := range other {
		r[c] = quotient(coef, common)
	}
}

// common is the greatest number that goes into all that columns are taken times.
func (r row) common() api.Int {
	one := whole.Of(1)
	out := api.Int{}
	for _, coef := range r {
		out = whole.Gcd(out, coef)
		if whole.Cmp(out, one) == 0 {
			break
		}
	}
	return out
}

// quotient is a number by another one that goes into it.
func quotient(a, by api.Int) api.Int {
	q, _, _ := whole.Div(a, by)
	return q
}
