package shape_test

import (
	"fmt"
	"math"
	"math/big"
	"slices"
	"strconv"
	"strings"
	"testing"

	"elenchus/api"
	"elenchus/pool"
	"elenchus/shape"
)

// meant is the number that an api.Int stands for, in whatever form it stands.
func meant(a api.Int) *big.Int {
	v := new(big.Int)
	for i := len(a.Abs) - 1; i >= 0; i-- {
		v.Lsh(v, 64)
		v.Or(v, new(big.Int).SetUint64(a.Abs[i]))
	}
	if a.Neg {
		v.Neg(v)
	}
	return v
}

// told is a number in the form in which numbers are told.
func told(n *big.Int) api.Int {
	out := api.Int{Neg: n.Sign() < 0}
	mask := new(big.Int).SetUint64(math.MaxUint64)
	for v := new(big.Int).Abs(n); v.Sign() != 0; v.Rsh(v, 64) {
		out.Abs = append(out.Abs, new(big.Int).And(v, mask).Uint64())
	}
	return out
}

// isTold asks whether a number stands in just the form in which numbers are told.
func isTold(a api.Int) bool {
	want := told(meant(a))
	return a.Neg == want.Neg && slices.Equal(a.Abs, want.Abs)
}

// small is a number, told.
func small(v int64) api.Int {
	return told(big.NewInt(v))
}

// formsOf are some forms of a number.
func formsOf(a api.Int) []api.Int {
	v := told(meant(a))
	if len(v.Abs) == 0 {
		return []api.Int{{}, {Neg: true}, {Abs: api.Nat{}}, {Abs: api.Nat{0}}, {Neg: true, Abs: api.Nat{0, 0}}}
	}
	one, more := v, v
	one.Abs = append(slices.Clone(v.Abs), 0)
	more.Abs = append(slices.Clone(v.Abs), 0, 0, 0)
	return []api.Int{v, one, more}
}

// symbols are those of all texts of rows.
func symbols() []api.Sym {
	return []api.Sym{
		{Name: "p", Sort: api.Bool}, {Name: "q", Sort: api.Bool}, {Name: "x", Sort: api.Whole}, {Name: "y", Sort: api.Whole},
		{Name: "f", Arity: 1, Sort: api.Whole}, {Name: "g", Arity: 2, Sort: api.Bool},
	}
}

// ops are the names that Ops have in texts of rows, but for OpNum ("#-3" is Num -3), OpMul ("*-3 0" is -3 times
// the term 0), and OpApp (it has its symbol's name).
func ops() []string {
	return []string{api.OpTrue: "true", api.OpFalse: "false", api.OpNot: "not", api.OpAnd: "and", api.OpOr: "or", api.OpIff: "iff", api.OpIte: "ite", api.OpEq: "eq", api.OpLe: "le", api.OpAdd: "add"}
}

// rows are those of a text: terms with "|" between, each a name and its parts' numbers.
func rows(t *testing.T, text string) api.Terms {
	t.Helper()
	r := api.Terms{Syms: symbols()}
	for _, line := range strings.Split(text, "|") {
		if words := strings.Fields(line); len(words) > 0 {
			r.Terms = append(r.Terms, termOf(t, words))
		}
	}
	return r
}

func termOf(t *testing.T, words []string) api.Term {
	t.Helper()
	out := api.Term{Args: numbers(t, words[1:]...)}
	switch name := words[0]; {
	case name[0] == '#' || name[0] == '*':
		v, ok := new(big.Int).SetString(name[1:], 10)
		if !ok {
			t.Fatalf("%q is no number", name)
		}
		out.Op, out.Num = map[byte]int{'#': api.OpNum, '*': api.OpMul}[name[0]], told(v)
	case slices.Contains(ops(), name):
		out.Op = slices.Index(ops(), name)
	default:
		out.Op = api.OpApp
		out.Sym = slices.IndexFunc(symbols(), func(s api.Sym) bool { return s.Name == name })
	}
	return out
}

func numbers(t *testing.T, words ...string) []int {
	t.Helper()
	var out []int
	for _, word := range words {
		n, err := strconv.Atoi(word)
		if err != nil {
			t.Fatal(err)
		}
		out = append(out, n)
	}
	return out
}

// written are rows as a text.
func written(r api.Terms) string {
	var out []string
	for _, t := range r.Terms {
		var name string
		switch t.Op {
		case api.OpNum:
			name = "#" + meant(t.Num).String()
		case api.OpMul:
			name = "*" + meant(t.Num).String()
		case api.OpApp:
			name = r.Syms[t.Sym].Name
		default:
			name = ops()[t.Op]
		}
		for _, part := range t.Args {
			name += " " + strconv.Itoa(part)
		}
		out = append(out, name)
	}
	return strings.Join(out, " | ")
}

// allOf are all terms' numbers.
func allOf(r api.Terms) []int {
	var out []int
	for n := range r.Terms {
		out = append(out, n)
	}
	return out
}

// folded is what comes of rows that may be. It fails unless the answer is rows that may be over the same symbols,
// its numbers in the form in which they are told, and as many stand-ins as there are roots.
func folded(t *testing.T, r api.Terms, roots []int) (api.Terms, []int) {
	t.Helper()
	got, standIns, err := shape.Fold(r, roots)
	if err != api.OK || len(standIns) != len(roots) {
		t.Fatalf("Fold of %.3000q, %v: %d stand-ins, error %d", written(r), roots, len(standIns), err)
	}
	if err := pool.Check(got); err != api.OK || !slices.Equal(got.Syms, r.Syms) {
		t.Fatalf("Fold of %.3000q over %v: %.3000q over %v, of which Check tells %d", written(r), r.Syms, fmt.Sprint(got.Terms), got.Syms, err)
	}
	for _, what := range got.Terms {
		if !isTold(what.Num) {
			t.Fatalf("Fold of %.3000q tells the number %v", written(r), what.Num)
		}
	}
	for _, n := range standIns {
		if n < 0 || n >= len(got.Terms) {
			t.Fatalf("Fold of %.3000q: %d is no term's number of %.3000q", written(r), n, written(got))
		}
	}
	return got, standIns
}

// checkFold fails unless the terms of a text come to just these, in this order, and have these stand-ins.
func checkFold(t *testing.T, given, want, standIns string) {
	t.Helper()
	r := rows(t, given)
	got, k := folded(t, r, allOf(r))
	if w := numbers(t, strings.Fields(standIns)...); written(got) != want || !slices.Equal(k, w) {
		t.Errorf("Fold of %q: %q, stand-ins %v, but it is %q, %v", given, written(got), k, want, w)
	}
	checkOther(t, r)
	checkAgain(t, r)
}

// folds are texts of rows, of what they come to, and of the stand-ins.
type folds []struct{ given, want, standIns string }

func (l folds) check(t *testing.T) {
	t.Helper()
	for _, c := range l {
		checkFold(t, c.given, c.want, c.standIns)
	}
}

// checkBoth checks the same with true and false, and with OpAnd and OpOr, swapped, too.
func (l folds) checkBoth(t *testing.T) {
	t.Helper()
	l.check(t)
	swap := strings.NewReplacer("true", "false", "false", "true", "and", "or", "or", "and")
	for _, c := range l {
		checkFold(t, swap.Replace(c.given), swap.Replace(c.want), c.standIns)
	}
}

// checkAgain fails unless roots that are folded again stay as they are: as terms, whatever their numbers.
func checkAgain(t *testing.T, r api.Terms) {
	t.Helper()
	once, roots := folded(t, r, allOf(r))
	again, k := folded(t, once, roots)
	same := sameTerms(once, again)
	for i, n := range roots {
		if !same(n, k[i]) {
			t.Fatalf("%.3000q folded: %.3000q; again: %.3000q: the root %d is another term, %d", written(r), written(once), written(again), n, k[i])
		}
	}
}

// sameTerms asks of the numbers of two rows' terms whether the terms are the same, their parts by themselves, not by their numbers.
func sameTerms(a, b api.Terms) func(int, int) bool {
	known := map[[2]int]bool{}
	var same func(int, int) bool
	same = func(n, m int) bool {
		if out, ok := known[[2]int{n, m}]; ok {
			return out
		}
		x, y := a.Terms[n], b.Terms[m]
		out := x.Op == y.Op && x.Sym == y.Sym && meant(x.Num).Cmp(meant(y.Num)) == 0 && slices.EqualFunc(x.Args, y.Args, same)
		known[[2]int{n, m}] = out
		return out
	}
	return same
}
