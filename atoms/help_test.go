package atoms_test

import (
	"math"
	"math/big"
	"slices"
	"strconv"
	"strings"
	"testing"

	"elenchus/api"
	"elenchus/atoms"
)

// meant is the number that an api.Int stands for, in whatever form it stands.
func meant(a api.Int) *big.Int {
	v := new(big.Int)
	for i := len(a.Abs) - 1; i >= 0; i-- {
		v.Lsh(v, 64)
		v.Or(v, new(big.Int).SetUint64(a.Abs[i]))
	}
	if a.Neg {
		v.Neg(v)
	}
	return v
}

// told is a number in the form in which numbers are told.
func told(n *big.Int) api.Int {
	out := api.Int{Neg: n.Sign() < 0}
	mask := new(big.Int).SetUint64(math.MaxUint64)
	for v := new(big.Int).Abs(n); v.Sign() != 0; v.Rsh(v, 64) {
		out.Abs = append(out.Abs, new(big.Int).And(v, mask).Uint64())
	}
	return out
}

// small is a number, told.
func small(v int64) api.Int {
	return told(big.NewInt(v))
}

// number is that of a text: digits in tens, or "W" and words with dots between, the highest first.
func number(t *testing.T, text string) *big.Int {
	t.Helper()
	v, ok := new(big.Int).SetString(text, 10)
	if size, below := strings.CutPrefix(text, "-"); strings.HasPrefix(size, "W") {
		v, ok = new(big.Int), true
		for _, word := range strings.Split(size[1:], ".") {
			w, err := strconv.ParseUint(word, 10, 64)
			ok = ok && err == nil
			v.Add(v.Lsh(v, 64), new(big.Int).SetUint64(w))
		}
		if below {
			v.Neg(v)
		}
	}
	if !ok {
		t.Fatalf("%q is no number", text)
	}
	return v
}

// zeros are all forms of 0.
func zeros() []api.Int {
	return []api.Int{{}, {Neg: true}, {Abs: api.Nat{}}, {Neg: true, Abs: api.Nat{}}, {Abs: api.Nat{0}}, {Neg: true, Abs: api.Nat{0}}, {Abs: api.Nat{0, 0, 0}}, {Neg: true, Abs: api.Nat{0, 0}}}
}

// formsOf are some forms of a number.
func formsOf(a api.Int) []api.Int {
	if meant(a).Sign() == 0 {
		return zeros()
	}
	v := told(meant(a))
	one, more := v, v
	one.Abs = append(slices.Clone(v.Abs), 0)
	more.Abs = append(slices.Clone(v.Abs), 0, 0, 0)
	return []api.Int{v, one, more}
}

// sum is a text's: "2*0 -3*4 7" is 2 times the term 0, -3 times the term 4, and 7.
func sum(t *testing.T, text string) api.Linear {
	t.Helper()
	l := api.Linear{}
	for _, word := range strings.Fields(text) {
		times, of, isPart := strings.Cut(word, "*")
		if !isPart {
			l.Const = told(number(t, word))
			continue
		}
		term, err := strconv.Atoi(of)
		if err != nil {
			t.Fatal(err)
		}
		l.Parts = append(l.Parts, api.Part{Coef: told(number(t, times)), Term: term})
	}
	return l
}

// sums are those of a text, with "|" between.
func sums(t *testing.T, text string) []api.Linear {
	t.Helper()
	var out []api.Linear
	for _, one := range strings.Split(text, "|") {
		if strings.TrimSpace(one) != "" {
			out = append(out, sum(t, one))
		}
	}
	return out
}

// digits are those of a number, "?" behind them if it doesn't stand in the form in which numbers are told.
func digits(a api.Int) string {
	n := meant(a)
	if want := told(n); a.Neg != want.Neg || !slices.Equal(a.Abs, want.Abs) {
		return n.String() + "?"
	}
	return n.String()
}

// writtenRow is a row as a text. Const stands in it only where it isn't the zero value.
func writtenRow(l api.Linear) string {
	var out []string
	for _, p := range l.Parts {
		out = append(out, digits(p.Coef)+"*"+strconv.Itoa(p.Term))
	}
	if l.Const.Neg || len(l.Const.Abs) > 0 {
		out = append(out, "Const "+digits(l.Const))
	}
	return strings.Join(out, " ")
}

func writtenRows(rows []api.Linear) string {
	var out []string
	for _, l := range rows {
		out = append(out, writtenRow(l))
	}
	return strings.Join(out, " | ")
}

// writtenAtoms are atoms as a text: each one's row, and Val.
func writtenAtoms(list []api.Atom) string {
	var out []string
	for _, a := range list {
		out = append(out, strconv.Itoa(a.Row)+": "+digits(a.Val))
	}
	return strings.Join(out, " | ")
}

// holds fails unless a table has just these rows and atoms.
func holds(t *testing.T, x *atoms.Table, rows, list string) {
	t.Helper()
	if got := writtenRows(x.Rows()); got != rows {
		t.Fatalf("Rows: %q, but they are %q", got, rows)
	}
	if got := writtenAtoms(x.List()); got != list {
		t.Fatalf("List: %q, but it is %q", got, list)
	}
}

// asks fails unless a sum is answered by just this atom, or its opposite.
func asks(t *testing.T, x *atoms.Table, l api.Linear, n int, is bool) {
	t.Helper()
	if got, yes, err := x.Ask(l); got != n || yes != is || err != api.OK {
		t.Fatalf("Ask of %q and %q: %d, %v, error %d, but it is %d, %v", writtenRow(l), digits(l.Const), got, yes, err, n, is)
	}
}

// refuses fails unless a sum is refused with just this error, and nothing is answered.
func refuses(t *testing.T, x *atoms.Table, l api.Linear, want api.Errno) {
	t.Helper()
	if n, is, err := x.Ask(l); n != 0 || is || err != want {
		t.Fatalf("Ask of %q and %q: %d, %v, error %d, but its error is %d", writtenRow(l), digits(l.Const), n, is, err, want)
	}
}

// asking is a sum as a text, and what an empty table answers: the row, Val, and whether it is the atom itself.
type asking struct {
	sum, row, val string
	is            bool
}

func check(t *testing.T, list ...asking) {
	t.Helper()
	for _, a := range list {
		x := atoms.New()
		asks(t, x, sum(t, a.sum), 0, a.is)
		holds(t, x, a.row, "0: "+a.val)
		asks(t, x, sum(t, a.sum), 0, a.is)
		holds(t, x, a.row, "0: "+a.val)
	}
}

// asked is a table that was asked sums of a text, one behind the other.
func asked(t *testing.T, text string) *atoms.Table {
	t.Helper()
	x := atoms.New()
	for _, l := range sums(t, text) {
		if _, _, err := x.Ask(l); err != api.OK {
			t.Fatalf("Ask of %v: error %d", l, err)
		}
	}
	return x
}
