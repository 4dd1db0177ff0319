package tableau_test

import (
	"math/big"
	"slices"
	"strings"
	"testing"

	"elenchus/api"
)

// line says that variables, each so many times, are together at most a number (the last one).
type line []*big.Rat

// lines are what the bounds say.
func (p problem) lines() []line {
	var out []line
	for _, b := range p.bounds {
		l := make(line, p.vars+1)
		for i := range l {
			l[i] = new(big.Rat)
		}
		for _, part := range p.rows[b.Row].Parts {
			l[part.Term].SetInt(meant(part.Coef))
		}
		l[p.vars].SetInt(meant(b.Val))
		if !b.Upper {
			for _, x := range l {
				x.Neg(x)
			}
		}
		out = append(out, l)
	}
	return out
}

// can tells whether the bounds can hold together, by letting go of one variable after the other: each
// lower bound of it is to be at most each upper one.
func (p problem) can() bool {
	list := p.lines()
	for v := range p.vars {
		var up, down, next []line
		for _, l := range list {
			switch l[v].Sign() {
			case 1:
				up = append(up, l.by(v))
			case -1:
				down = append(down, l.by(v))
			default:
				next = append(next, l)
			}
		}
		for _, a := range up {
			for _, b := range down {
				next = append(next, a.and(b))
			}
		}
		list = tightest(next)
	}
	return !slices.ContainsFunc(list, func(l line) bool { return l[p.vars].Sign() < 0 })
}

// by is the same line, told so that v is there once, or -1 times.
func (l line) by(v int) line {
	size := new(big.Rat).Abs(l[v])
	out := make(line, len(l))
	for i, x := range l {
		out[i] = new(big.Rat).Quo(x, size)
	}
	return out
}

// and is what two lines say together.
func (l line) and(m line) line {
	out := make(line, len(l))
	for i, x := range l {
		out[i] = new(big.Rat).Add(x, m[i])
	}
	return out
}

// tightest are lines without those that say the same as another one, or less.
func tightest(list []line) []line {
	at := map[string]int{}
	var out []line
	for _, l := range list {
		first := slices.IndexFunc(l[:len(l)-1], func(x *big.Rat) bool { return x.Sign() != 0 })
		if first >= 0 {
			l = l.by(first)
		}
		var key strings.Builder
		for _, x := range l[:len(l)-1] {
			key.WriteString(x.RatString() + " ")
		}
		i, ok := at[key.String()]
		switch {
		case !ok:
			at[key.String()] = len(out)
			out = append(out, l)
		case l[len(l)-1].Cmp(out[i][len(l)-1]) < 0:
			out[i] = l
		}
	}
	return out
}

// walk is another search, column by column and row by row, by whichever rule: it is for problems on
// which a search goes round. Variables are 0 to vars-1, the row r's sum is vars+r.
type walk struct {
	vars   int
	tells  map[int]line // of those that are told by columns: how many times each number
	values []*big.Rat
	low    []*big.Rat // nil, if there is no such bound
	high   []*big.Rat
}

func newWalk(p problem) *walk {
	all := p.vars + len(p.rows)
	w := &walk{vars: p.vars, tells: map[int]line{}, low: make([]*big.Rat, all), high: make([]*big.Rat, all)}
	for range all {
		w.values = append(w.values, new(big.Rat))
	}
	for r, l := range p.rows {
		tell := newLine(all)
		for _, part := range l.Parts {
			tell[part.Term].SetInt(meant(part.Coef))
		}
		w.tells[p.vars+r] = tell
	}
	for _, b := range p.bounds {
		n, val := p.vars+b.Row, new(big.Rat).SetInt(meant(b.Val))
		if b.Upper && (w.high[n] == nil || val.Cmp(w.high[n]) < 0) {
			w.high[n] = val
		}
		if !b.Upper && (w.low[n] == nil || val.Cmp(w.low[n]) > 0) {
			w.low[n] = val
		}
	}
	return w
}

func newLine(length int) line {
	out := make(line, length)
	for i := range out {
		out[i] = new(big.Rat)
	}
	return out
}

// lacks is what a number's value lacks to the bound that it breaks; 0 if it breaks none.
func (w *walk) lacks(n int) *big.Rat {
	switch {
	case w.low[n] != nil && w.values[n].Cmp(w.low[n]) < 0:
		return new(big.Rat).Sub(w.low[n], w.values[n])
	case w.high[n] != nil && w.values[n].Cmp(w.high[n]) > 0:
		return new(big.Rat).Sub(w.high[n], w.values[n])
	}
	return new(big.Rat)
}

// broken are those that break a bound, rising.
func (w *walk) broken() []int {
	var out []int
	for n := range w.tells {
		if w.lacks(n).Sign() != 0 {
			out = append(out, n)
		}
	}
	slices.Sort(out)
	return out
}

// movers are the columns that may move so that n goes where it is to go, rising.
func (w *walk) movers(n int) []int {
	var out []int
	for c, coef := range w.tells[n] {
		side := coef.Sign() * w.lacks(n).Sign()
		if side > 0 && (w.high[c] == nil || w.values[c].Cmp(w.high[c]) < 0) || side < 0 && (w.low[c] == nil || w.values[c].Cmp(w.low[c]) > 0) {
			out = append(out, c)
		}
	}
	return out
}

func (w *walk) exchange(n, c int) {
	step := new(big.Rat).Quo(w.lacks(n), w.tells[n][c])
	w.values[c].Add(w.values[c], step)
	for m, tell := range w.tells {
		w.values[m].Add(w.values[m], new(big.Rat).Mul(step, tell[c]))
	}
	turned := newLine(len(w.values))
	for i, x := range w.tells[n] {
		turned[i].Quo(x, w.tells[n][c]).Neg(turned[i])
	}
	turned[n].Inv(w.tells[n][c])
	turned[c].SetInt64(0)
	delete(w.tells, n)
	for _, tell := range w.tells {
		times := new(big.Rat).Set(tell[c])
		tell[c].SetInt64(0)
		for i, x := range turned {
			tell[i].Add(tell[i], new(big.Rat).Mul(times, x))
		}
	}
	w.tells[c] = turned
}

// place is where the search is: which numbers are columns, and their values.
func (w *walk) place() string {
	var out strings.Builder
	for n, x := range w.values {
		if w.tells[n] == nil {
			out.WriteString(x.RatString())
		}
		out.WriteString(" ")
	}
	return out.String()
}

// rule chooses one that is exchanged, of some.
type rule func(w *walk, among []int) int

func first(_ *walk, among []int) int {
	return among[0]
}

func last(_ *walk, among []int) int {
	return among[len(among)-1]
}

// furthest is the one that lacks the most.
func furthest(w *walk, among []int) int {
	return slices.MaxFunc(among, func(a, b int) int {
		return new(big.Rat).Abs(w.lacks(a)).Cmp(new(big.Rat).Abs(w.lacks(b)))
	})
}

// nearest is the one that lacks the least.
func nearest(w *walk, among []int) int {
	return slices.MinFunc(among, func(a, b int) int {
		return new(big.Rat).Abs(w.lacks(a)).Cmp(new(big.Rat).Abs(w.lacks(b)))
	})
}

// goesRound tells whether the search by rules comes to a place where it was, and so never to an end.
func (p problem) goesRound(row, column rule) bool {
	w := newWalk(p)
	seen := map[string]bool{}
	for !seen[w.place()] {
		seen[w.place()] = true
		broken := w.broken()
		if len(broken) == 0 {
			return false
		}
		n := row(w, broken)
		movers := w.movers(n)
		if len(movers) == 0 {
			return false
		}
		w.exchange(n, column(w, movers))
	}
	return true
}

// steps is how often the search by Bland's rule exchanges, and its answer.
func (p problem) steps(t *testing.T) (int, int) {
	t.Helper()
	w := newWalk(p)
	for n := range 10000 {
		broken := w.broken()
		if len(broken) == 0 {
			return n, api.Sat
		}
		movers := w.movers(broken[0])
		if len(movers) == 0 {
			return n, api.Unsat
		}
		w.exchange(broken[0], movers[0])
	}
	t.Fatalf("the other search of %v comes to no end", p)
	return 0, 0
}
