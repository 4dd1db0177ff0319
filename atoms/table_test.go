package atoms_test

import (
	"math/big"
	"strconv"
	"testing"

	"elenchus/api"
	"elenchus/atoms"
)

func TestEmptyTable(t *testing.T) {
	x := atoms.New()
	holds(t, x, "", "")
	if rows, list := x.Rows(), x.List(); len(rows) != 0 || len(list) != 0 {
		t.Fatalf("an empty table has %v, %v", rows, list)
	}
}

// A row that is there already is taken for another Val, too.
func TestAnotherValOfARow(t *testing.T) {
	x := atoms.New()
	for n, text := range []string{"1*0 2*1", "1*0 2*1 -1", "1*0 2*1 1", "3*0 6*1 -8", "-1*0 -2*1 -2", "-2*0 -4*1 9", "1*0 2*1 W1.0", "1*0 2*1 -W1.0"} {
		asks(t, x, sum(t, text), n, text[0] != '-')
	}
	holds(t, x, "1*0 2*1", "0: 0 | 0: 1 | 0: -1 | 0: 2 | 0: -3 | 0: 4 | 0: -18446744073709551616 | 0: 18446744073709551616")
}

// An atom that is there already is found, as it was asked for or otherwise.
func TestAtomsAreFound(t *testing.T) {
	x := atoms.New()
	asks(t, x, sum(t, "2*0 4*1 -6"), 0, true)
	for _, text := range []string{"2*0 4*1 -6", "1*0 2*1 -3", "2*0 4*1 -7", "10*0 20*1 -39", "10*0 20*1 -30", "W1.0*0 W2.0*1 -W3.0"} {
		asks(t, x, sum(t, text), 0, true)
	}
	for _, text := range []string{"-1*0 -2*1 4", "-2*0 -4*1 7", "-2*0 -4*1 8", "-10*0 -20*1 31", "-10*0 -20*1 40", "-W1.0*0 -W2.0*1 W3.1"} {
		asks(t, x, sum(t, text), 0, false)
	}
	holds(t, x, "1*0 2*1", "0: 3")
}

// A sum and so many times it are one atom, whatever they are.
func TestMultiples(t *testing.T) {
	for _, text := range []string{"1*0", "1*0 5", "-1*0 5", "2*0 -3*1 -4", "-2*0 -3*1 4", "-6*1 4*2 1", "6*1 4*2 1", "W1.0*3 -1*9 W1.1", "-W1.1*3 5*9 -7"} {
		l := sum(t, text)
		for _, often := range []string{"2", "3", "4", "10", "4294967296", "W1.0", "W7.0.1"} {
			times := number(t, often)
			more := api.Linear{Const: told(new(big.Int).Mul(meant(l.Const), times))}
			for _, p := range l.Parts {
				more.Parts = append(more.Parts, api.Part{Coef: told(new(big.Int).Mul(meant(p.Coef), times)), Term: p.Term})
			}
			for _, both := range [][]api.Linear{{l, more}, {more, l}} {
				x := atoms.New()
				is := text[0] != '-'
				asks(t, x, both[0], 0, is)
				asks(t, x, both[1], 0, is)
				if len(x.Rows()) != 1 || len(x.List()) != 1 {
					t.Fatalf("%q and %s times it: %q, %q", text, often, writtenRows(x.Rows()), writtenAtoms(x.List()))
				}
			}
		}
	}
}

// Rows and atoms have numbers in the order in which they were asked for first, each of their own.
func TestOrder(t *testing.T) {
	x := atoms.New()
	asks(t, x, sum(t, "1*5 -9"), 0, true)
	asks(t, x, sum(t, "-1*2 -9"), 1, false)
	asks(t, x, sum(t, "1*5 -8"), 2, true)
	asks(t, x, sum(t, "-3"), -1, true)
	asks(t, x, sum(t, "1*5 1*6 -8"), 3, true)
	refuses(t, x, sum(t, "1*6 1*5 -8"), api.ErrForm)
	asks(t, x, sum(t, "1*2 -10"), 4, true)
	asks(t, x, sum(t, "1*5 -9"), 0, true)
	asks(t, x, sum(t, "1*0 W1.0"), 5, true)
	asks(t, x, sum(t, "1*5 2*6 -8"), 6, true)
	asks(t, x, sum(t, "-1*5 -1*6 9"), 3, false)
	asks(t, x, sum(t, "1*5 -7"), 7, true)
	asks(t, x, sum(t, "1*2 11"), 8, true)
	asks(t, x, sum(t, "1*2 10"), 1, true)
	holds(t, x, "1*5 | 1*2 | 1*5 1*6 | 1*0 | 1*5 2*6", "0: 9 | 1: -10 | 0: 8 | 2: 8 | 1: 10 | 3: -18446744073709551616 | 4: 8 | 0: 7 | 1: -11")
}

// Rows that are nearly alike are rows of their own: other terms, coefficients, signs, fewer parts, words that
// stand side by side.
func TestUnlikeRows(t *testing.T) {
	x := atoms.New()
	unlike := []string{
		"1*0", "1*1", "1*2", "1*3", "1*12", "1*123", "1*-1", "1*-12", "1*11", "1*111", "1*10", "1*21",
		"1*0 1*1", "1*0 -1*1", "1*0 2*1", "1*0 -2*1", "2*0 1*1", "2*0 -1*1", "1*0 1*2", "1*1 1*2", "1*0 1*1 1*2", "1*0 1*1 -1*2", "1*0 -1*1 1*2",
		"1*0 12*3", "1*0 1*23", "1*0 1*2 3*4", "1*0 1*2 34*5", "1*0 12*34", "1*01 23*4", "1*1 2*11", "1*1 21*1100", "11*1 2*11", "1*-3 2*4", "1*-3 2*-2", "1*3 2*4",
		"1*0 W1.2*1", "1*0 W2.1*1", "1*0 W12*1", "1*0 W21*1", "1*0 -W1.2*1", "1*0 -W2.1*1", "1*0 -W12*1", "1*0 W1.0.2*1", "1*0 W1.0*1", "1*0 W1.0.0*1", "1*0 W10*1", "1*0 W100*1", "1*0 W1.23*1", "1*0 W12.3*1", "1*0 W123*1",
		"W1.2*0 5*1", "W2.1*0 5*1", "W1.2*0 1*1 3*2", "1*0 2*1 1*2 3*3", "1*0 W2.1*1 3*3", "W3.1*0 5*1", "1*0 3*1 5*2", "1*0 W3.1*2",
		"1*0 W3.2*11", "1*0 W3.12*1", "1*0 -W3.2*11", "1*0 -W3.12*1", "1*0 2*11", "1*0 -2*11", "1*-5 3*-4", "1*-5 3*4", "1*-5 -3*4", "1*-5 -3*-4",
	}
	for n, text := range unlike {
		asks(t, x, sum(t, text), n, true)
	}
	rows, list := x.Rows(), x.List()
	if len(rows) != len(unlike) || len(list) != len(unlike) {
		t.Fatalf("of %d rows there are %d, and %d atoms", len(unlike), len(rows), len(list))
	}
	for n, text := range unlike {
		asks(t, x, sum(t, text), n, true)
		if writtenRow(rows[n]) != writtenRow(sum(t, text)) || list[n].Row != n || digits(list[n].Val) != "0" {
			t.Fatalf("the row %d: %q, atom %v, but it is %q", n, writtenRow(rows[n]), list[n], text)
		}
	}
}

// Atoms that are nearly alike are atoms of their own: other rows, Vals, signs, words that stand side by side.
func TestUnlikeAtoms(t *testing.T) {
	x := atoms.New()
	vals := []string{"0", "1", "-1", "2", "3", "12", "-12", "21", "123", "W1.0", "-W1.0", "W1.2", "W2.1", "-W1.2", "W1.0.0", "W1.0.2", "W12.3", "W1.23", "10", "11", "110", "111"}
	for row := range 13 {
		for n, val := range vals {
			l := sum(t, "1*"+strconv.Itoa(row))
			l.Const = told(new(big.Int).Neg(number(t, val)))
			asks(t, x, l, row*len(vals)+n, true)
		}
	}
	list := x.List()
	if len(list) != 13*len(vals) || len(x.Rows()) != 13 {
		t.Fatalf("of %d atoms there are %d, of 13 rows %d", 13*len(vals), len(list), len(x.Rows()))
	}
	for n, a := range list {
		if want := number(t, vals[n%len(vals)]).String(); a.Row != n/len(vals) || digits(a.Val) != want {
			t.Fatalf("the atom %d: %v, but it is of the row %d, %s", n, a, n/len(vals), want)
		}
	}
}

// Many rows and atoms have numbers one behind the other.
func TestManyRowsAndAtoms(t *testing.T) {
	x := atoms.New()
	const rows, vals = 300, 20
	for k := range vals {
		for row := range rows {
			l := api.Linear{Parts: []api.Part{{Coef: small(2), Term: row}, {Coef: small(-2), Term: row + 1}}, Const: small(int64(-2 * k))}
			asks(t, x, l, k*rows+row, true)
		}
	}
	got, list := x.Rows(), x.List()
	if len(got) != rows || len(list) != rows*vals {
		t.Fatalf("there are %d rows and %d atoms", len(got), len(list))
	}
	for n, a := range list {
		if a.Row != n%rows || digits(a.Val) != strconv.Itoa(n/rows) {
			t.Fatalf("the atom %d is %v", n, a)
		}
	}
	for row, l := range got {
		if want := "1*" + strconv.Itoa(row) + " -1*" + strconv.Itoa(row+1); writtenRow(l) != want {
			t.Fatalf("the row %d is %q, not %q", row, writtenRow(l), want)
		}
	}
}
