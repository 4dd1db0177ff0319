package tables_test

import (
	"math"
	"math/big"
	"math/rand/v2"
	"slices"
	"strconv"
	"testing"

	"elenchus/api"
	"elenchus/tables"
)

// chance is the same in each run.
func chance() *rand.Rand {
	return rand.New(rand.NewPCG(16, 42))
}

func anyOf[T any](r *rand.Rand, l ...T) T {
	return l[r.IntN(len(l))]
}

// meant is the number that an api.Int stands for, in whatever form it stands.
func meant(a api.Int) *big.Int {
	v := new(big.Int)
	for i := len(a.Abs) - 1; i >= 0; i-- {
		v.Lsh(v, 64)
		v.Or(v, new(big.Int).SetUint64(a.Abs[i]))
	}
	if a.Neg {
		v.Neg(v)
	}
	return v
}

// told is the same number in the form in which numbers are told.
func told(a api.Int) api.Int {
	v := meant(a)
	out := api.Int{Neg: v.Sign() < 0}
	mask := new(big.Int).SetUint64(math.MaxUint64)
	for v.Abs(v); v.Sign() != 0; v.Rsh(v, 64) {
		out.Abs = append(out.Abs, new(big.Int).And(v, mask).Uint64())
	}
	return out
}

func isSameInt(a, b api.Int) bool {
	return a.Neg == b.Neg && slices.Equal(a.Abs, b.Abs)
}

// of is a number of these words, the lowest first, as they stand.
func of(words ...uint64) api.Int {
	return api.Int{Abs: words}
}

func below(words ...uint64) api.Int {
	return api.Int{Neg: true, Abs: words}
}

// small is a number, told.
func small(v int64) api.Int {
	if v < 0 {
		return told(below(uint64(-v)))
	}
	return told(of(uint64(v)))
}

func smalls(list ...int64) []api.Int {
	var out []api.Int
	for _, v := range list {
		out = append(out, small(v))
	}
	return out
}

// zeros are all forms of 0.
func zeros() []api.Int {
	return []api.Int{{}, {Neg: true}, {Abs: api.Nat{}}, below(), of(0), below(0), of(0, 0, 0), below(0, 0)}
}

// say is that a symbol tells a number of these.
func say(sym int, val api.Int, args ...api.Int) api.App {
	return api.App{Sym: sym, Args: args, Val: val}
}

// says is the same of small numbers.
func says(sym int, val int64, args ...int64) api.App {
	return say(sym, small(val), smalls(args...)...)
}

// symbols are of these counts of numbers, by turns of Whole and of Bool.
func symbols(arities ...int) []api.Sym {
	var out []api.Sym
	for i, arity := range arities {
		out = append(out, api.Sym{Name: "s" + strconv.Itoa(i), Arity: arity, Sort: 2 - i%2})
	}
	return out
}

func isSameNumber(a, b api.Int) bool {
	return meant(a).Cmp(meant(b)) == 0
}

// isOfSame asks whether two are of one symbol and of the same numbers.
func isOfSame(a, b api.App) bool {
	return a.Sym == b.Sym && slices.EqualFunc(a.Args, b.Args, isSameNumber)
}

// clash is what Clash is to answer: all pairs are held against each other.
func clash(l []api.App) (int, int, bool) {
	for k := range l {
		for i := range k {
			if isOfSame(l[i], l[k]) && !isSameNumber(l[i].Val, l[k].Val) {
				return i, k, true
			}
		}
	}
	return 0, 0, false
}

func checkClash(t *testing.T, l []api.App) bool {
	t.Helper()
	i, k, found := tables.Clash(l)
	if wantI, wantK, want := clash(l); i != wantI || k != wantK || found != want {
		t.Fatalf("Clash of %v: %d, %d, %v, but it is %d, %d, %v", l, i, k, found, wantI, wantK, want)
	}
	return found
}

// noClash fails unless none clash.
func noClash(t *testing.T, l ...api.App) {
	t.Helper()
	if checkClash(t, l) {
		t.Fatalf("two of %v clash", l)
	}
}

// clashes fails unless just these two are told to clash.
func clashes(t *testing.T, first, second int, l ...api.App) {
	t.Helper()
	if i, k, found := tables.Clash(l); i != first || k != second || !found {
		t.Fatalf("Clash of %v: %d, %d, %v, but %d and %d clash", l, i, k, found, first, second)
	}
	checkClash(t, l)
}

// build is what Build is to answer, where it answers no error.
func build(syms []api.Sym, l []api.App) api.Model {
	out := api.Model{}
	for n, s := range syms {
		table := api.Table{}
		var seen []api.App
		for _, a := range l {
			isIt := func(b api.App) bool { return isOfSame(a, b) }
			switch {
			case a.Sym != n || slices.ContainsFunc(seen, isIt):
				continue
			case s.Arity == 0:
				table.Else = told(a.Val)
			default:
				row := api.Row{Val: told(a.Val)}
				for _, arg := range a.Args {
					row.Args = append(row.Args, told(arg))
				}
				table.Rows = append(table.Rows, row)
			}
			seen = append(seen, a)
		}
		out.Tables = append(out.Tables, table)
	}
	return out
}

func isSameRow(a, b api.Row) bool {
	return slices.EqualFunc(a.Args, b.Args, isSameInt) && isSameInt(a.Val, b.Val)
}

func isSameModel(a, b api.Model) bool {
	isSameTable := func(x, y api.Table) bool {
		return slices.EqualFunc(x.Rows, y.Rows, isSameRow) && isSameInt(x.Else, y.Else)
	}
	return slices.EqualFunc(a.Tables, b.Tables, isSameTable)
}

// made is Build's answer, which must be without an error, and as it is to be.
func made(t *testing.T, syms []api.Sym, l ...api.App) api.Model {
	t.Helper()
	m, e := tables.Build(syms, l)
	if e != api.OK {
		t.Fatalf("Build of %v, %v: error %d", syms, l, e)
	}
	if want := build(syms, l); !isSameModel(m, want) {
		t.Fatalf("Build of %v, %v: %v, but it is %v", syms, l, m, want)
	}
	return m
}

// refused fails unless Build answers this error, and nothing beside it.
func refused(t *testing.T, want api.Errno, syms []api.Sym, l ...api.App) {
	t.Helper()
	if m, e := tables.Build(syms, l); e != want || len(m.Tables) != 0 {
		t.Fatalf("Build of %v, %v: %v, error %d, but its error is %d", syms, l, m, e, want)
	}
}
