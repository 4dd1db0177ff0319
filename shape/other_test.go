package shape_test

import (
	"fmt"
	"math/big"
	"slices"
	"testing"

	"elenchus/api"
)

// other folds in another way than the program: terms stand by texts, numbers are those of math/big, and each rule
// looks at all that it says of its parts ahead of making anything.
type other struct {
	list []api.Term
	at   map[string]int
}

// put is the number of a term, which is laid, if it isn't there.
func (o *other) put(op, sym int, num *big.Int, parts ...int) int {
	text := fmt.Sprint(op, " ", sym, " ", num, " ", parts)
	if n, ok := o.at[text]; ok {
		return n
	}
	o.at[text] = len(o.list)
	o.list = append(o.list, api.Term{Op: op, Sym: sym, Num: told(num), Args: slices.Clone(parts)})
	return o.at[text]
}

func (o *other) plain(op int, parts ...int) int {
	return o.put(op, 0, new(big.Int), parts...)
}

func (o *other) constant(holds bool) int {
	return o.plain(map[bool]int{true: 1, false: 2}[holds])
}

func (o *other) number(v *big.Int) int {
	return o.put(3, 0, v)
}

// truth is what a term says, if it is true or false.
func (o *other) truth(n int) (holds, known bool) {
	return o.list[n].Op == 1, o.list[n].Op == 1 || o.list[n].Op == 2
}

func (o *other) isTruth(n int, want bool) bool {
	holds, known := o.truth(n)
	return known && holds == want
}

func (o *other) num(n int) (*big.Int, bool) {
	return meant(o.list[n].Num), o.list[n].Op == 3
}

func (o *other) negate(n int) int {
	if holds, known := o.truth(n); known {
		return o.constant(!holds)
	}
	if o.list[n].Op == 5 {
		return o.list[n].Args[0]
	}
	return o.plain(5, n)
}

// join is OpAnd, where empty is true, or OpOr.
func (o *other) join(op int, parts []int, empty bool) int {
	var left []int
	for i, n := range parts {
		if !o.isTruth(n, empty) && slices.Index(parts, n) == i {
			left = append(left, n)
		}
	}
	for _, n := range left {
		for _, m := range left {
			if o.isTruth(n, !empty) || o.list[n].Op == 5 && o.list[n].Args[0] == m {
				return o.constant(!empty)
			}
		}
	}
	switch len(left) {
	case 0:
		return o.constant(empty)
	case 1:
		return left[0]
	}
	return o.plain(op, left...)
}

func (o *other) same(a, b int) int {
	if a == b {
		return o.constant(true)
	}
	for _, pair := range [][2]int{{a, b}, {b, a}} {
		if holds, known := o.truth(pair[0]); known && holds {
			return pair[1]
		} else if known {
			return o.negate(pair[1])
		}
	}
	return o.plain(8, a, b)
}

func (o *other) choose(c, a, b int) int {
	if holds, known := o.truth(c); known {
		return map[bool]int{true: a, false: b}[holds]
	}
	if a == b {
		return a
	}
	x, known := o.truth(a)
	y, alsoKnown := o.truth(b)
	switch {
	case known && alsoKnown && x && !y:
		return c
	case known && alsoKnown && y && !x:
		return o.negate(c)
	}
	return o.plain(9, c, a, b)
}

func (o *other) compare(op, a, b int) int {
	if a == b {
		return o.constant(true)
	}
	x, isNum := o.num(a)
	y, isAlso := o.num(b)
	if isNum && isAlso {
		return o.constant(x.Cmp(y) == 0 || op == 11 && x.Cmp(y) < 0)
	}
	return o.plain(op, a, b)
}

func (o *other) add(parts []int) int {
	rest := slices.DeleteFunc(slices.Clone(parts), func(n int) bool { return o.list[n].Op == 3 })
	sum := new(big.Int)
	for _, n := range parts {
		if v, isNum := o.num(n); isNum {
			sum.Add(sum, v)
		}
	}
	switch {
	case len(rest) == 0:
		return o.number(sum)
	case sum.Sign() == 0 && len(rest) == 1:
		return rest[0]
	case sum.Sign() == 0:
		return o.plain(12, rest...)
	}
	return o.plain(12, append(rest, o.number(sum))...)
}

// multiply takes a part as a number times a base: a Num has no base, and all but OpMul are once themselves.
func (o *other) multiply(k *big.Int, n int) int {
	times, base := big.NewInt(1), n
	switch part := o.list[n]; part.Op {
	case 3:
		return o.number(new(big.Int).Mul(k, meant(part.Num)))
	case 13:
		times, base = meant(part.Num), part.Args[0]
	}
	switch times.Mul(times, k); {
	case times.Sign() == 0:
		return o.number(times)
	case times.Cmp(big.NewInt(1)) == 0:
		return base
	}
	return o.put(13, 0, times, base)
}

func (o *other) fold(t api.Term, parts []int) int {
	switch t.Op {
	case 5:
		return o.negate(parts[0])
	case 6, 7:
		return o.join(t.Op, parts, t.Op == 6)
	case 8:
		return o.same(parts[0], parts[1])
	case 9:
		return o.choose(parts[0], parts[1], parts[2])
	case 10, 11:
		return o.compare(t.Op, parts[0], parts[1])
	case 12:
		return o.add(parts)
	case 13:
		return o.multiply(meant(t.Num), parts[0])
	}
	return o.put(t.Op, t.Sym, meant(t.Num), parts...)
}

// expected are the folded rows of rows that may be, and all terms' stand-ins.
func expected(r api.Terms) (api.Terms, []int) {
	o := &other{at: map[string]int{}}
	var standIns []int
	for _, t := range r.Terms {
		var parts []int
		for _, part := range t.Args {
			parts = append(parts, standIns[part])
		}
		standIns = append(standIns, o.fold(t, parts))
	}
	return api.Terms{Syms: r.Syms, Terms: o.list}, standIns
}

// checkOther fails unless rows come to what comes of them in the other way.
func checkOther(t *testing.T, r api.Terms) {
	t.Helper()
	want, wantStandIns := expected(r)
	got, standIns := folded(t, r, allOf(r))
	if written(got) != written(want) || !slices.Equal(standIns, wantStandIns) {
		t.Fatalf("Fold of %.3000q: %.3000q, stand-ins %v, but it is %.3000q, %v", written(r), written(got), standIns, written(want), wantStandIns)
	}
}
