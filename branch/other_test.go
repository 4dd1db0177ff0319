package branch_test

import (
	"math/big"
	"testing"
)

// line says that variables, each so many times, are together at most a number.
type line struct {
	times []*big.Int
	most  *big.Int
}

// trial tries whole numbers, variable by variable: of each the lines in which no later one stands.
type trial struct {
	lines [][]line // the last ones are without variables
	reach int64    // how far is tried where not much keeps a variable
}

func newTrial(p problem) trial {
	tr := trial{lines: make([][]line, p.vars+1), reach: 60}
	for range p.vars - 2 {
		tr.reach = max(tr.reach/4, 1)
	}
	for _, b := range p.bounds {
		side := int64(1)
		if !b.Upper {
			side = -1
		}
		l := line{make([]*big.Int, p.vars), new(big.Int).Mul(big.NewInt(side), meant(b.Val))}
		last := p.vars
		for _, part := range p.rows[b.Row].Parts {
			l.times[part.Term] = new(big.Int).Mul(big.NewInt(side), meant(part.Coef))
			last = part.Term
		}
		tr.lines[last] = append(tr.lines[last], l)
	}
	return tr
}

// meet is whole numbers by which all bounds hold, or nil. What those ahead leave to a variable is tried one
// by one. Where that is much, or without end, not all of it is: for at most two variables, small numbers
// and bounds that is enough, else it may miss some.
func (p problem) meet() []*big.Int {
	tr := newTrial(p)
	for _, l := range tr.lines[p.vars] {
		if l.most.Sign() < 0 {
			return nil
		}
	}
	return tr.extend(make([]*big.Int, 0, p.vars))
}

func (tr trial) extend(values []*big.Int) []*big.Int {
	v := len(values)
	if v == len(tr.lines)-1 {
		return values
	}
	low, high := tr.left(values)
	if v == len(tr.lines)-2 && low.Cmp(high) < 0 {
		high = low // no line is left that asks more of the last one
	}
	high = lesser(high, new(big.Int).Add(low, big.NewInt(2*tr.reach)))
	for n := low; n.Cmp(high) <= 0; n = new(big.Int).Add(n, big.NewInt(1)) {
		if found := tr.extend(append(values, n)); found != nil {
			return found
		}
	}
	return nil
}

// left is from where to where the next variable may be by the lines.
func (tr trial) left(values []*big.Int) (*big.Int, *big.Int) {
	var low, high *big.Int
	for _, l := range tr.lines[len(values)] {
		rest := new(big.Int).Set(l.most)
		for v, n := range values {
			if l.times[v] != nil {
				rest.Sub(rest, new(big.Int).Mul(l.times[v], n))
			}
		}
		times := l.times[len(values)]
		// Div rounds down, as what it divides by is above 0.
		n := new(big.Int).Div(rest, new(big.Int).Abs(times))
		if times.Sign() > 0 && (high == nil || n.Cmp(high) < 0) {
			high = n
		}
		if n = new(big.Int).Neg(n); times.Sign() < 0 && (low == nil || n.Cmp(low) > 0) {
			low = n
		}
	}
	reach := big.NewInt(tr.reach)
	switch {
	case low == nil && high == nil:
		return new(big.Int).Neg(reach), reach
	case low == nil:
		return lesser(new(big.Int).Neg(reach), new(big.Int).Sub(high, reach)), high
	case high == nil:
		return low, greater(reach, new(big.Int).Add(low, reach))
	}
	return low, high
}

func lesser(a, b *big.Int) *big.Int {
	if a.Cmp(b) < 0 {
		return a
	}
	return b
}

func greater(a, b *big.Int) *big.Int {
	if a.Cmp(b) > 0 {
		return a
	}
	return b
}

// Whole numbers are found where there are some, and only such.
func TestTrial(t *testing.T) {
	p := box([2]int64{-3, 3}, [2]int64{-3, 3}, [2]int64{-3, 3})
	count := 0
	for a := int64(-4); a <= 4; a++ {
		for b := int64(-4); b <= 4; b++ {
			q := p.with(dense(a, b, 2), 5, 5)
			want := false
			for i := range int64(343) {
				want = want || a*(i%7-3)+b*(i/7%7-3)+2*(i/49-3) == 5
			}
			got := q.meet()
			if (got != nil) != want {
				t.Fatalf("meet of %v: %v", q, got)
			}
			for n := range q.bounds {
				if want && !q.holds(n, got) {
					t.Fatalf("meet of %v: %v", q, got)
				}
			}
			if want {
				count++
			}
		}
	}
	if count == 0 || count == 81 {
		t.Fatalf("%d can be", count)
	}
}
