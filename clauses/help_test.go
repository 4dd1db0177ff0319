package clauses_test

import (
	"fmt"
	"math"
	"math/big"
	"slices"
	"strconv"
	"strings"
	"testing"

	"elenchus/api"
	"elenchus/clauses"
)

// meant is the number that an api.Int stands for, in whatever form it stands.
func meant(a api.Int) *big.Int {
	v := new(big.Int)
	for i := len(a.Abs) - 1; i >= 0; i-- {
		v.Lsh(v, 64)
		v.Or(v, new(big.Int).SetUint64(a.Abs[i]))
	}
	if a.Neg {
		v.Neg(v)
	}
	return v
}

// told is a number in the form in which numbers are told.
func told(n *big.Int) api.Int {
	out := api.Int{Neg: n.Sign() < 0}
	mask := new(big.Int).SetUint64(math.MaxUint64)
	for v := new(big.Int).Abs(n); v.Sign() != 0; v.Rsh(v, 64) {
		out.Abs = append(out.Abs, new(big.Int).And(v, mask).Uint64())
	}
	return out
}

// small is a number, told.
func small(v int64) api.Int {
	return told(big.NewInt(v))
}

// formsOf are some forms of a number.
func formsOf(a api.Int) []api.Int {
	v := told(meant(a))
	if len(v.Abs) == 0 {
		return []api.Int{{}, {Neg: true}, {Abs: api.Nat{}}, {Abs: api.Nat{0}}, {Neg: true, Abs: api.Nat{0, 0}}}
	}
	one, more := v, v
	one.Abs = append(slices.Clone(v.Abs), 0)
	more.Abs = append(slices.Clone(v.Abs), 0, 0, 0)
	return []api.Int{v, one, more}
}

// number is that of a text: digits in tens, or "W" and words with dots between, the highest first.
func number(t *testing.T, text string) *big.Int {
	t.Helper()
	v, ok := new(big.Int).SetString(text, 10)
	if size, below := strings.CutPrefix(text, "-"); strings.HasPrefix(size, "W") {
		v, ok = new(big.Int), true
		for _, word := range strings.Split(size[1:], ".") {
			w, err := strconv.ParseUint(word, 10, 64)
			ok = ok && err == nil
			v.Add(v.Lsh(v, 64), new(big.Int).SetUint64(w))
		}
		if below {
			v.Neg(v)
		}
	}
	if !ok {
		t.Fatalf("%q is no number", text)
	}
	return v
}

func whole(t *testing.T, text string) int {
	t.Helper()
	n, err := strconv.Atoi(text)
	if err != nil {
		t.Fatal(err)
	}
	return n
}

// symbols are those of all texts of rows.
func symbols() []api.Sym {
	return []api.Sym{
		{Name: "p", Sort: api.Bool}, {Name: "q", Sort: api.Bool}, {Name: "x", Sort: api.Whole}, {Name: "y", Sort: api.Whole},
		{Name: "f", Arity: 1, Sort: api.Whole}, {Name: "g", Arity: 2, Sort: api.Bool},
	}
}

// ops are the names that Ops have in texts of rows, but for OpNum ("#-3" is Num -3), OpMul ("*-3 0" is -3 times
// the term 0), and OpApp (it has its symbol's name).
func ops() []string {
	return []string{api.OpTrue: "true", api.OpFalse: "false", api.OpNot: "not", api.OpAnd: "and", api.OpOr: "or", api.OpIff: "iff", api.OpIte: "ite", api.OpEq: "eq", api.OpLe: "le", api.OpAdd: "add"}
}

// rows are those of a text: terms with "|" between, each a name and its parts' numbers.
func rows(t *testing.T, text string) api.Terms {
	t.Helper()
	r := api.Terms{Syms: symbols()}
	for _, line := range strings.Split(text, "|") {
		if words := strings.Fields(line); len(words) > 0 {
			r.Terms = append(r.Terms, termOf(t, words))
		}
	}
	return r
}

func termOf(t *testing.T, words []string) api.Term {
	t.Helper()
	var out api.Term
	for _, word := range words[1:] {
		out.Args = append(out.Args, whole(t, word))
	}
	switch name := words[0]; {
	case name[0] == '#' || name[0] == '*':
		out.Op, out.Num = map[byte]int{'#': api.OpNum, '*': api.OpMul}[name[0]], told(number(t, name[1:]))
	case slices.Contains(ops(), name):
		out.Op = slices.Index(ops(), name)
	default:
		out.Op = api.OpApp
		out.Sym = slices.IndexFunc(symbols(), func(s api.Sym) bool { return s.Name == name })
	}
	return out
}

// sum is a text's: "2*0 -3*4 7" is 2 times the term 0, -3 times the term 4, and 7.
func sum(t *testing.T, text string) api.Linear {
	t.Helper()
	l := api.Linear{}
	for _, word := range strings.Fields(text) {
		times, of, isPart := strings.Cut(word, "*")
		if !isPart {
			l.Const = told(number(t, word))
			continue
		}
		l.Parts = append(l.Parts, api.Part{Coef: told(number(t, times)), Term: whole(t, of)})
	}
	return l
}

// sums are those of a text, with "|" between.
func sums(t *testing.T, text string) []api.Linear {
	t.Helper()
	var out []api.Linear
	for _, one := range strings.Split(text, "|") {
		if strings.TrimSpace(one) != "" {
			out = append(out, sum(t, one))
		}
	}
	return out
}

// digits are those of a number, "?" behind them if it doesn't stand in the form in which numbers are told.
func digits(a api.Int) string {
	n := meant(a)
	if want := told(n); a.Neg != want.Neg || !slices.Equal(a.Abs, want.Abs) {
		return n.String() + "?"
	}
	return n.String()
}

// writtenSum is a sum as a text. Const stands in it only where it isn't the zero value.
func writtenSum(l api.Linear) string {
	var out []string
	for _, p := range l.Parts {
		out = append(out, digits(p.Coef)+"*"+strconv.Itoa(p.Term))
	}
	if l.Const.Neg || len(l.Const.Abs) > 0 {
		out = append(out, digits(l.Const))
	}
	return strings.Join(out, " ")
}

func writtenMean(m api.Mean) string {
	return fmt.Sprint(m.Term, " ", m.Atom.Row, ":", digits(m.Atom.Val))
}

// written is all that was made as a text, without the roots.
func written(d api.Coded) string {
	out := fmt.Sprint(d.Vars, " ", len(d.Clauses), " ", d.Clauses)
	for _, m := range d.Means {
		out += " | " + writtenMean(m)
	}
	for _, l := range d.Rows {
		out += " & " + writtenSum(l)
	}
	return out
}

// writtenRows are rows as they are given, as a text.
func writtenRows(r api.Terms) string {
	var out []string
	for _, t := range r.Terms {
		name := "op" + strconv.Itoa(t.Op)
		switch {
		case t.Op == api.OpNum:
			name = "#" + meant(t.Num).String()
		case t.Op == api.OpMul:
			name = "*" + meant(t.Num).String()
		case t.Op == api.OpApp:
			name = r.Syms[t.Sym].Name
		case t.Op > 0 && t.Op < len(ops()):
			name = ops()[t.Op]
		}
		out = append(out, strings.TrimSpace(name+" "+strings.Trim(fmt.Sprint(t.Args), "[]")))
	}
	return strings.Join(out, " | ")
}

// coder is one of rows that may be.
func coder(t *testing.T, r api.Terms) *clauses.Coder {
	t.Helper()
	c, err := clauses.New(r)
	if c == nil || err != api.OK {
		t.Fatalf("New of %.3000q: %v, error %d", writtenRows(r), c, err)
	}
	return c
}

// lit is the literal of a term of Bool.
func lit(t *testing.T, c *clauses.Coder, n int) int {
	t.Helper()
	l, err := c.Lit(n)
	if l == 0 || err != api.OK {
		t.Fatalf("Lit of %d: %d, error %d", n, l, err)
	}
	return l
}

// most is the literal of a sum whose terms may be.
func most(t *testing.T, c *clauses.Coder, l api.Linear) int {
	t.Helper()
	n, err := c.Most(l)
	if n == 0 || err != api.OK {
		t.Fatalf("Most of %q: %d, error %d", writtenSum(l), n, err)
	}
	return n
}

// refusesLit fails unless a number is refused with just this error, and nothing changes.
func refusesLit(t *testing.T, c *clauses.Coder, n int, want api.Errno) {
	t.Helper()
	before := c.Coded()
	if l, err := c.Lit(n); l != 0 || err != want {
		t.Fatalf("Lit of %d: %d, error %d, but its error is %d", n, l, err, want)
	}
	checkSame(t, before, c.Coded())
}

// refusesMost fails unless a sum is refused with just this error, and nothing changes.
func refusesMost(t *testing.T, c *clauses.Coder, l api.Linear, want api.Errno) {
	t.Helper()
	before := c.Coded()
	if n, err := c.Most(l); n != 0 || err != want {
		t.Fatalf("Most of %q: %d, error %d, but its error is %d", writtenSum(l), n, err, want)
	}
	checkSame(t, before, c.Coded())
}

// checkSame fails unless what was made is the same.
func checkSame(t *testing.T, a, b api.Coded) {
	t.Helper()
	if written(a) != written(b) || !slices.Equal(a.Roots, b.Roots) {
		t.Fatalf("%.3000s, roots %v, but it was %.3000s, roots %v", written(b), b.Roots, written(a), a.Roots)
	}
}
