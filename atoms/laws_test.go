package atoms_test

import (
	"math"
	"math/big"
	"math/rand/v2"
	"slices"
	"strconv"
	"strings"
	"testing"

	"elenchus/api"
	"elenchus/atoms"
)

// chance is the same in each run.
func chance() *rand.Rand {
	return rand.New(rand.NewPCG(10, 27))
}

func anyOf[T any](r *rand.Rand, l ...T) T {
	return l[r.IntN(len(l))]
}

// anyInt is in any form; mostly it is small, so that rows and atoms come up again.
func anyInt(r *rand.Rand) api.Int {
	v := api.Int{Neg: r.IntN(2) == 0}
	if r.IntN(6) > 0 {
		v.Abs = append(v.Abs, uint64(r.IntN(7)))
	}
	if r.IntN(8) == 0 {
		for range r.IntN(4) {
			v.Abs = append(v.Abs, anyOf[uint64](r, 0, 0, 1, 6, math.MaxUint64))
		}
	}
	return v
}

// anySum is a sum of at most three of four terms, some of them so many times another one.
func anySum(r *rand.Rand) api.Linear {
	l := api.Linear{Const: anyInt(r)}
	often := anyOf(r, small(1), small(1), small(2), small(-3), anyInt(r))
	for n := range 4 {
		v := told(new(big.Int).Mul(meant(anyInt(r)), meant(often)))
		if len(v.Abs) > 0 && len(l.Parts) < 3 && r.IntN(2) == 0 {
			l.Parts = append(l.Parts, api.Part{Coef: anyOf(r, formsOf(v)...), Term: n})
		}
	}
	return l
}

// anyList is any list of parts: terms come twice, out of order and 0 times.
func anyList(r *rand.Rand) api.Linear {
	l := api.Linear{Const: anyInt(r)}
	for range r.IntN(4) {
		l.Parts = append(l.Parts, api.Part{Coef: anyInt(r), Term: r.IntN(5) - 1})
	}
	return l
}

// less is 1 less a sum.
func less(l api.Linear) api.Linear {
	out := api.Linear{Const: told(new(big.Int).Sub(big.NewInt(1), meant(l.Const)))}
	for _, p := range l.Parts {
		out.Parts = append(out.Parts, api.Part{Coef: told(new(big.Int).Neg(meant(p.Coef))), Term: p.Term})
	}
	return out
}

// other is a table in another way than the program's: of a sum whose first part is taken less than no times
// it asks what it isn't, and it looks through all rows and atoms as texts.
type other struct {
	rows, atoms []string
}

func place(list *[]string, text string) int {
	if !slices.Contains(*list, text) {
		*list = append(*list, text)
	}
	return slices.Index(*list, text)
}

func isSum(l api.Linear) bool {
	for i, p := range l.Parts {
		for _, behind := range l.Parts[i+1:] {
			if behind.Term <= p.Term {
				return false
			}
		}
		if meant(p.Coef).Sign() == 0 {
			return false
		}
	}
	return true
}

func (o *other) ask(l api.Linear) (int, bool, api.Errno) {
	if !isSum(l) {
		return 0, false, api.ErrForm
	}
	if len(l.Parts) == 0 {
		return -1, meant(l.Const).Sign() <= 0, api.OK
	}
	if meant(l.Parts[0].Coef).Sign() < 0 {
		n, _, _ := o.ask(less(l))
		return n, false, api.OK
	}
	divisor := new(big.Int)
	for _, p := range l.Parts {
		divisor.GCD(nil, nil, divisor, new(big.Int).Abs(meant(p.Coef)))
	}
	var parts []string
	for _, p := range l.Parts {
		parts = append(parts, new(big.Int).Quo(meant(p.Coef), divisor).String()+"*"+strconv.Itoa(p.Term))
	}
	row := place(&o.rows, strings.Join(parts, " "))
	// Of a divisor above 0 Div is rounded down.
	k := new(big.Int).Div(new(big.Int).Neg(meant(l.Const)), divisor)
	return place(&o.atoms, strconv.Itoa(row)+": "+k.String()), true, api.OK
}

// checkOther fails unless a table answers as the other one does, and has what that has.
func checkOther(t *testing.T, x *atoms.Table, o *other, l api.Linear) {
	t.Helper()
	n, is, err := o.ask(l)
	if err != api.OK {
		refuses(t, x, l, err)
	} else {
		asks(t, x, l, n, is)
	}
	holds(t, x, strings.Join(o.rows, " | "), strings.Join(o.atoms, " | "))
}

// Whatever is asked, tables answer as the document tells.
func TestAnySums(t *testing.T) {
	r := chance()
	for range 200 {
		x, o := atoms.New(), &other{}
		for range 60 {
			checkOther(t, x, o, anyOf(r, anySum(r), anySum(r), anySum(r), anyList(r)))
		}
	}
}

// Tables don't depend on one another, whatever they are asked by turns.
func TestTablesByTurns(t *testing.T) {
	r := chance()
	for range 50 {
		x, o := []*atoms.Table{atoms.New(), atoms.New(), atoms.New()}, []other{{}, {}, {}}
		for range 100 {
			n := r.IntN(3)
			checkOther(t, x[n], &o[n], anyOf(r, anySum(r), anySum(r), anyList(r)))
		}
	}
}

// Tables that were asked the same have the same.
func TestAskedTheSame(t *testing.T) {
	r := chance()
	for range 50 {
		x, y := atoms.New(), atoms.New()
		for range 60 {
			l := anySum(r)
			n, is, _ := x.Ask(l)
			asks(t, y, l, n, is)
		}
		holds(t, y, writtenRows(x.Rows()), writtenAtoms(x.List()))
	}
}

// valueOf is what a sum comes to by values, by terms.
func valueOf(l api.Linear, values []*big.Int) *big.Int {
	out := new(big.Int).Set(meant(l.Const))
	for _, p := range l.Parts {
		out.Add(out, new(big.Int).Mul(meant(p.Coef), values[p.Term]))
	}
	return out
}

// checkHolds fails unless by some values a sum is at most 0 just if its atom holds, or, of an opposite, doesn't.
func checkHolds(t *testing.T, x *atoms.Table, l api.Linear, each func(func(values ...*big.Int))) {
	t.Helper()
	n, is, err := x.Ask(l)
	if err != api.OK {
		t.Fatalf("Ask of %v: error %d", l, err)
	}
	a := x.List()[n]
	row := x.Rows()[a.Row]
	each(func(values ...*big.Int) {
		asked := valueOf(l, values).Sign() <= 0
		if atom := valueOf(row, values).Cmp(meant(a.Val)) <= 0; asked != (atom == is) {
			t.Fatalf("%q and %s, by %v: at most 0 is %v, but that %q is at most %s is %v, and the atom itself %v", writtenRow(l), digits(l.Const), values, asked, writtenRow(row), digits(a.Val), atom, is)
		}
	})
}

// square hands on all values of two terms near 0.
func square(take func(values ...*big.Int)) {
	for x := int64(-6); x <= 6; x++ {
		for y := int64(-6); y <= 6; y++ {
			take(big.NewInt(x), big.NewInt(y))
		}
	}
}

func TestSumsHoldAsAtomsNearZero(t *testing.T) {
	x := atoms.New()
	for a := int64(-4); a <= 4; a++ {
		for b := int64(-6); b <= 6; b++ {
			for c := int64(-9); c <= 9; c++ {
				l := api.Linear{Const: small(c)}
				for n, k := range []int64{a, b} {
					if k != 0 {
						l.Parts = append(l.Parts, api.Part{Coef: small(k), Term: n})
					}
				}
				if len(l.Parts) > 0 {
					checkHolds(t, x, l, square)
				}
			}
		}
	}
}

// Of whatever numbers, by values of which the last one brings the sum near 0, on both sides of it.
func TestSumsHoldAsAtoms(t *testing.T) {
	r := chance()
	x := atoms.New()
	for range 3000 {
		l := anySum(r)
		if len(l.Parts) == 0 {
			continue
		}
		checkHolds(t, x, l, func(take func(values ...*big.Int)) {
			values := make([]*big.Int, 4)
			for n := range values {
				values[n] = meant(anyInt(r))
			}
			take(values...)
			last := l.Parts[len(l.Parts)-1]
			values[last.Term] = new(big.Int)
			near := new(big.Int).Quo(valueOf(l, values), meant(last.Coef))
			for away := int64(-3); away <= 3; away++ {
				values[last.Term] = new(big.Int).Sub(big.NewInt(away), near)
				take(values...)
			}
		})
	}
}

// checkOpposites fails unless a sum and 1 less it are one atom and its opposite, in either order.
func checkOpposites(t *testing.T, l api.Linear) {
	t.Helper()
	for _, both := range [][]api.Linear{{l, less(l)}, {less(l), l}} {
		x := asked(t, "5*0 1 | 1*9")
		rows, list := len(x.Rows()), len(x.List())
		n, is, err := x.Ask(both[0])
		if err != api.OK {
			t.Fatalf("Ask of %v: error %d", l, err)
		}
		made := writtenRows(x.Rows()) + " of " + writtenAtoms(x.List())
		asks(t, x, both[1], n, !is)
		asks(t, x, both[0], n, is)
		if after := writtenRows(x.Rows()) + " of " + writtenAtoms(x.List()); after != made {
			t.Fatalf("%q and %s, and 1 less it: %s, but it is %s", writtenRow(both[0]), digits(both[0].Const), after, made)
		}
		if len(x.Rows()) > rows+1 || len(x.List()) > list+1 {
			t.Fatalf("%q and %s makes more than a row and an atom: %s", writtenRow(both[0]), digits(both[0].Const), made)
		}
	}
}

func TestOpposites(t *testing.T) {
	for _, l := range sums(t, "1*0 | -1*0 | 1*0 1 | 1*0 -4 | -1*0 4 | 2*0 -6 | 2*0 -5 | -2*0 5 | 3*0 1 | 3*0 2 | 3*0 -1 | 3*0 -2 | -3*0 7 | 2*0 4*1 3 | -6*0 9*1 -4 | 6*0 9*1 -5 | 6*0 -9*1 -6 | W1.0*0 | W1.0*0 1 | -W1.0*0 W3.0*1 -W5.1 | W1.0*0 W3.0*1 W5.1 | 2*0 3*1 W1.0 | -1*3 W1.0.0 | -1*3 -W1.0.0 | 0 | 1 | -1 | 2 | W1.0 | -W1.0") {
		checkOpposites(t, l)
	}
}

// Whatever the common divisor, and Const by it.
func TestOppositesOfDivisors(t *testing.T) {
	for divisor := int64(-7); divisor <= 7; divisor++ {
		for rest := int64(-15); rest <= 15; rest++ {
			if divisor != 0 {
				checkOpposites(t, api.Linear{Parts: []api.Part{{Coef: small(divisor), Term: 2}}, Const: small(rest)})
				checkOpposites(t, api.Linear{Parts: []api.Part{{Coef: small(2 * divisor), Term: 2}, {Coef: small(-3 * divisor), Term: 7}}, Const: small(rest)})
			}
		}
	}
}

func TestOppositesOfAnySums(t *testing.T) {
	r := chance()
	for range 3000 {
		checkOpposites(t, anySum(r))
	}
}
