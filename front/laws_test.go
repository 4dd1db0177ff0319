package front_test

import (
	"math/big"
	"math/rand/v2"
	"slices"
	"strconv"
	"strings"
	"testing"

	"elenchus/api"
	"elenchus/front"
	"elenchus/pool"
	"elenchus/sexp"
	"elenchus/value"
)

// chance is the same in each run.
func chance() *rand.Rand {
	return rand.New(rand.NewPCG(7, 24))
}

func anyOf[T any](r *rand.Rand, l ...T) T {
	return l[r.IntN(len(l))]
}

// lawSyms are the symbols of what is written at random; some are called as operators are.
func lawSyms() []api.Sym {
	return append(few(), named("and", 0, api.Bool), named("-", 0, api.Whole), named("let", 0, api.Whole), named("h", 4, api.Bool), named("k l", 0, api.Whole))
}

// writer writes expressions at random.
type writer struct {
	r *rand.Rand
	// How many expressions of so many are written otherwise than they should be: 0 of no faults.
	faults int
	sorts  map[string]int // of the names that stand for something
}

func newWriter(r *rand.Rand, faults int) *writer {
	w := &writer{r, faults, map[string]int{}}
	for _, s := range lawSyms() {
		if s.Arity == 0 {
			w.sorts[s.Name] = s.Sort
		}
	}
	return w
}

// symbol is a symbol, with "|" or without.
func (w *writer) symbol(name string) string {
	if name == "" || strings.Contains(name, " ") || w.r.IntN(12) == 0 {
		return "|" + name + "|"
	}
	return name
}

// list is a list, its parts with blanks between.
func (w *writer) list(parts ...string) string {
	gap := anyOf(w.r, " ", " ", " ", "  ", "\n", "\t ", " ; (\n")
	return "(" + strings.Join(parts, gap) + anyOf(w.r, "", "", " ") + ")"
}

// leaf is an expression of a sort without parts.
func (w *writer) leaf(sort int) string {
	var names []string
	for name, s := range w.sorts {
		if s == sort {
			names = append(names, name)
		}
	}
	slices.Sort(names) // a map's order would make each run another one
	for i, name := range names {
		names[i] = w.symbol(name)
	}
	if sort == api.Bool {
		names = append(names, "true", "false")
	} else {
		names = append(names, "0", "1", "2", "7", "18446744073709551616")
	}
	return anyOf(w.r, names...)
}

// expr is an expression of a sort, so deep at most.
func (w *writer) expr(sort, deep int) string {
	if w.faults > 0 && w.r.IntN(w.faults) == 0 {
		return w.faulty(deep)
	}
	if deep <= 0 || w.r.IntN(5) == 0 {
		return w.leaf(sort)
	}
	if w.r.IntN(6) == 0 {
		return w.let(sort, deep)
	}
	if w.r.IntN(8) == 0 {
		return w.list("ite", w.expr(api.Bool, deep-1), w.expr(sort, deep-1), w.expr(sort, deep-1))
	}
	if sort == api.Bool {
		return w.condition(deep)
	}
	return w.sum(deep)
}

// call is a list of an operator and some parts of a sort.
func (w *writer) call(op string, least, most, sort, deep int) string {
	parts := []string{w.symbol(op)}
	for range least + w.r.IntN(most-least+1) {
		parts = append(parts, w.expr(sort, deep-1))
	}
	return w.list(parts...)
}

func (w *writer) condition(deep int) string {
	switch w.r.IntN(12) {
	case 0:
		return w.call("not", 1, 1, api.Bool, deep)
	case 1, 2:
		return w.call(anyOf(w.r, "and", "or"), 1, 4, api.Bool, deep)
	case 3, 4:
		return w.call(anyOf(w.r, "=>", "xor"), 2, 4, api.Bool, deep)
	case 5, 6:
		return w.call(anyOf(w.r, "=", "distinct"), 2, 4, anyOf(w.r, api.Bool, api.Whole), deep)
	case 7:
		return w.call("b", 1, 1, api.Whole, deep)
	case 8:
		return w.call("h", 4, 4, api.Whole, deep-1)
	}
	return w.call(anyOf(w.r, "<=", "<", ">=", ">"), 2, 4, api.Whole, deep)
}

func (w *writer) sum(deep int) string {
	switch w.r.IntN(8) {
	case 0:
		return w.call("f", 1, 1, api.Whole, deep)
	case 1:
		return w.call("g", 2, 2, api.Whole, deep)
	case 2, 3:
		return w.product(deep)
	}
	return w.call(anyOf(w.r, "+", "-"), 1, 4, api.Whole, deep)
}

// product has, beside fixed parts, one of any kind; with faults, it may have more.
func (w *writer) product(deep int) string {
	parts := []string{w.fixed(2), w.fixed(2), w.fixed(1)}[:w.r.IntN(4)]
	for range 1 + w.r.IntN(2)*min(w.faults, 1) {
		parts = slices.Insert(parts, w.r.IntN(len(parts)+1), w.expr(api.Whole, deep-1))
	}
	return w.list(append([]string{"*"}, parts...)...)
}

// fixed is an expression that is fixed.
func (w *writer) fixed(deep int) string {
	if deep == 0 || w.r.IntN(2) == 0 {
		return anyOf(w.r, "0", "1", "2", "3", "18446744073709551616")
	}
	parts := []string{anyOf(w.r, "+", "-", "-", "*")}
	for range 1 + w.r.IntN(3) {
		parts = append(parts, w.fixed(deep-1))
	}
	return w.list(parts...)
}

// let gives names to terms, hides what they stood for, and lets them stand for that again behind it.
func (w *writer) let(sort, deep int) string {
	var names, bindings []string
	inner := map[string]int{}
	for name, s := range w.sorts {
		inner[name] = s
	}
	for range 1 + w.r.IntN(3) {
		name := anyOf(w.r, "a", "c", "d", "p", "x", "f", "and", "let", "+", "k l", "")
		if slices.Contains(names, name) && (w.faults == 0 || w.r.IntN(3) > 0) {
			continue
		}
		of := anyOf(w.r, api.Bool, api.Whole)
		names = append(names, name)
		inner[name] = of
		bindings = append(bindings, w.list(w.symbol(name), w.expr(of, deep-1)))
	}
	around := w.sorts
	w.sorts = inner
	body := w.expr(sort, deep-1)
	w.sorts = around
	return w.list("let", w.list(bindings...), body)
}

// faulty is an expression with which something may be wrong.
func (w *writer) faulty(deep int) string {
	if deep <= 0 {
		return anyOf(w.r, "nosuch", ":key", "()", "f", "(1 2)", "h", w.leaf(api.Bool), w.leaf(api.Whole), "(x 1)")
	}
	switch w.r.IntN(5) {
	case 0:
		return w.faulty(0)
	case 1:
		// What is wrong behind a name of nothing isn't told here.
		return w.list(anyOf(w.r, "nosuch", "a", "true", "AND"), "1", "2")
	case 2:
		return anyOf(w.r, "(let ((a "+w.expr(api.Bool, deep-1)+")))", "(let () "+w.leaf(api.Bool)+")", "(let ((a 1 2)) a)", "(let ((1 2)) a)", "(let (a) a)")
	case 3:
		return w.expr(anyOf(w.r, api.Bool, api.Whole), deep-1)
	}
	ops := []string{"f", "g", "b", "x", "p", "h"}
	for op := range counts() {
		ops = append(ops, op)
	}
	slices.Sort(ops)
	return w.call(anyOf(w.r, ops...), 0, 5, anyOf(w.r, api.Bool, api.Whole), deep)
}

// agrees fails unless a scope's pool has what was made in the other way, and nothing else.
func agrees(t *testing.T, text string, r api.Terms, o *other) {
	t.Helper()
	got := showMarked(r)
	if len(got) < len(o.terms) || !slices.Equal(got[:len(o.terms)], o.terms) || !o.loose && len(got) > len(o.terms) {
		t.Fatalf("%q makes\n%v\nbut it is\n%v", text, got, o.terms)
	}
}

// Whatever is written, right or wrong, Term reads it as the document asks, from call to call.
func TestTermOfAnyExpressions(t *testing.T) {
	r := chance()
	for round := range 4000 {
		s, o := newScope(t, lawSyms()...), newOther(lawSyms())
		w := newWriter(r, []int{0, 12, 30, 80}[round%4])
		for call := range 4 {
			text := w.expr(1+r.IntN(2), 1+r.IntN(4))
			want := o.read(expr(t, text), nil)
			n, at, err := s.s.Term(expr(t, text))
			if n != want || at != o.at || err != o.err {
				t.Fatalf("Term of %q: %d, error %d at %d, but it is %d, error %d at %d", text, n, err, at, want, o.err, o.at)
			}
			agrees(t, text, s.p.Rows(), o)
			if err != api.OK {
				break // what the list with which something is wrong has made isn't known
			}
			name := "d" + strconv.Itoa(call)
			s.define(name, n)
			sort, _ := s.p.Sort(n)
			o.names[name], w.sorts[name] = n, sort
		}
	}
}

func TestReadOfAnyTexts(t *testing.T) {
	r := chance()
	for round := range 4000 {
		w := newWriter(r, []int{0, 30, 100}[round%3])
		var texts []string
		for range r.IntN(5) {
			texts = append(texts, w.expr(1+r.IntN(2), r.IntN(5)))
		}
		text := strings.Join(texts, anyOf(r, " ", "\n", " ; )\n"))
		checkAnyText(t, text)
	}
}

// checkAnyText fails unless Read answers as the other way does.
func checkAnyText(t *testing.T, text string) {
	t.Helper()
	list, _, err := sexp.Read(text)
	if err != api.OK {
		t.Fatalf("%q can't be read: error %d", text, err)
	}
	o := newOther(lawSyms())
	var want []int
	for _, e := range list {
		want = append(want, o.read(e, nil))
	}
	if o.err != api.OK {
		checkNotRead(t, lawSyms(), text, o.at, o.err)
		return
	}
	got, numbers, at, err := front.Read(lawSyms(), text)
	if err != api.OK || at != 0 || !slices.Equal(numbers, want) || !slices.Equal(got.Syms, lawSyms()) {
		t.Fatalf("Read of %q: %v, error %d at %d, but it is %v", text, numbers, err, at, want)
	}
	agrees(t, text, got, o)
	if err := pool.Check(got); err != api.OK {
		t.Fatalf("Read of %q: rows that may not be, error %d", text, err)
	}
}

// meaning is what expressions say by a model, without any terms: of Bool 1 is true.
type meaning struct {
	syms   []api.Sym
	tables []api.Table
}

func truth(holds bool) *big.Int {
	if holds {
		return big.NewInt(1)
	}
	return new(big.Int)
}

func (m meaning) of(e api.Expr, names map[string]*big.Int) *big.Int {
	if e.Kind == api.Numeral {
		return number(e.Text)
	}
	if e.Kind == api.Symbol {
		if e.Text == "true" || e.Text == "false" {
			return truth(e.Text == "true")
		}
		if v, ok := names[e.Text]; ok {
			return v
		}
		return m.told(e.Text, nil)
	}
	if e.Parts[0].Text == "let" {
		inner := map[string]*big.Int{}
		for name, v := range names {
			inner[name] = v
		}
		for _, binding := range e.Parts[1].Parts {
			inner[binding.Parts[0].Text] = m.of(binding.Parts[1], names)
		}
		return m.of(e.Parts[2], inner)
	}
	var parts []*big.Int
	for _, part := range e.Parts[1:] {
		parts = append(parts, m.of(part, names))
	}
	return m.operator(e.Parts[0].Text, parts)
}

// told is what a symbol tells.
func (m meaning) told(name string, parts []*big.Int) *big.Int {
	i := slices.IndexFunc(m.syms, func(s api.Sym) bool { return s.Name == name })
	val := meant(m.tables[i].Else)
	for _, row := range slices.Backward(m.tables[i].Rows) {
		if slices.EqualFunc(row.Args, parts, func(a api.Int, b *big.Int) bool { return meant(a).Cmp(b) == 0 }) {
			val = meant(row.Val)
		}
	}
	if m.syms[i].Sort == api.Bool {
		return truth(val.Sign() != 0)
	}
	return val
}

// folded is what an operation of two makes of a row, from the left.
func folded(parts []*big.Int, two func(out, a, b *big.Int) *big.Int) *big.Int {
	out := new(big.Int).Set(parts[0])
	for _, part := range parts[1:] {
		two(out, out, part)
	}
	return out
}

// ordered is whether each part and the next one are in one of the orders.
func ordered(parts []*big.Int, orders ...int) *big.Int {
	for i, part := range parts[1:] {
		if !slices.Contains(orders, parts[i].Cmp(part)) {
			return truth(false)
		}
	}
	return truth(true)
}

func (m meaning) operator(op string, parts []*big.Int) *big.Int {
	isTrue := func(v *big.Int) bool { return v.Sign() != 0 }
	isFalse := func(v *big.Int) bool { return v.Sign() == 0 }
	last := len(parts) - 1
	if last == 0 && (op == "and" || op == "or") {
		return parts[0] // of whatever sort
	}
	switch op {
	case "not":
		return truth(isFalse(parts[0]))
	case "and":
		return truth(!slices.ContainsFunc(parts, isFalse))
	case "or":
		return truth(slices.ContainsFunc(parts, isTrue))
	case "=>":
		return truth(slices.ContainsFunc(parts[:last], isFalse) || isTrue(parts[last]))
	case "xor":
		return truth(folded(parts, (*big.Int).Add).Bit(0) == 1)
	case "=":
		return ordered(parts, 0)
	case "<=":
		return ordered(parts, -1, 0)
	case "<":
		return ordered(parts, -1)
	case ">=":
		return ordered(parts, 1, 0)
	case ">":
		return ordered(parts, 1)
	case "distinct":
		sorted := slices.SortedFunc(slices.Values(parts), (*big.Int).Cmp)
		return ordered(sorted, -1)
	case "ite":
		if isTrue(parts[0]) {
			return parts[1]
		}
		return parts[2]
	case "+":
		return folded(parts, (*big.Int).Add)
	case "*":
		return folded(parts, (*big.Int).Mul)
	case "-":
		if last == 0 {
			return new(big.Int).Neg(parts[0])
		}
		return folded(parts, (*big.Int).Sub)
	}
	return m.told(op, parts)
}

// anyModel has a table for each symbol, of few numbers, so that parts come to be the same.
func anyModel(r *rand.Rand, syms []api.Sym) api.Model {
	var m api.Model
	for _, s := range syms {
		table := api.Table{Else: small(int64(r.IntN(4)) - 1)}
		for range r.IntN(6) {
			line := api.Row{Val: small(int64(r.IntN(5)) - 2)}
			for range s.Arity {
				line.Args = append(line.Args, small(int64(r.IntN(4))))
			}
			table.Rows = append(table.Rows, line)
		}
		m.Tables = append(m.Tables, table)
	}
	return m
}

// By every model what is read has the value that the expression's operators make.
func TestMeanings(t *testing.T) {
	r := chance()
	for range 1500 {
		w := newWriter(r, 0)
		text := w.expr(1+r.IntN(2), 1+r.IntN(4)) + " " + w.expr(1+r.IntN(2), 2)
		list, _, err := sexp.Read(text)
		if err != api.OK {
			t.Fatalf("%q can't be read: error %d", text, err)
		}
		rows, terms, at, err := front.Read(lawSyms(), text)
		if err != api.OK || len(terms) != len(list) {
			t.Fatalf("Read of %q: %v, error %d at %d", text, terms, err, at)
		}
		for range 8 {
			checkMeaning(t, text, list, rows, terms, anyModel(r, lawSyms()))
		}
	}
}

func checkMeaning(t *testing.T, text string, list []api.Expr, rows api.Terms, terms []int, m api.Model) {
	t.Helper()
	values, err := value.Eval(rows, m)
	if err != api.OK {
		t.Fatalf("Eval of %q: error %d", text, err)
	}
	for i, e := range list {
		if want := (meaning{lawSyms(), m.Tables}).of(e, nil); meant(values[terms[i]]).Cmp(want) != 0 {
			t.Fatalf("%q: by %v the expression number %d has the value %v, but it says %v", text, m, i, meant(values[terms[i]]), want)
		}
	}
}

// Each operator of all small values says what it says.
func TestMeaningsOfOperators(t *testing.T) {
	syms := few()
	for op, count := range counts() {
		for n := count[0]; n <= min(count[1], 4); n++ {
			names := [][]string{{"x", "y", "z", "(- x)"}, {"p", "q", "r", "(not p)"}}
			for _, parts := range names {
				text := "(" + op + " " + strings.Join(parts[:n], " ") + ")"
				if op == "ite" {
					text = "(ite p " + parts[0] + " " + parts[1] + ")"
				}
				if op == "*" && n > 1 {
					text = "(* " + []string{"", "3", "(- 2) 5", "2 2 (+ 1 1)"}[n-1] + " " + parts[0] + ")"
				}
				rows, terms, _, err := front.Read(syms, text)
				if err != api.OK {
					continue // of the other sort
				}
				checkAllModels(t, text, rows, terms)
			}
		}
	}
}

// checkAllModels goes through all values of x, y and z from -1 to 1 and of p, q and r.
func checkAllModels(t *testing.T, text string, rows api.Terms, terms []int) {
	t.Helper()
	e := expr(t, text)
	for n := range 27 * 8 {
		m := api.Model{Tables: make([]api.Table, len(rows.Syms))}
		for i := range 3 {
			m.Tables[i].Else = small(int64(n >> i & 1))
		}
		m.Tables[3].Else, m.Tables[4].Else, m.Tables[5].Else = small(int64(n/8%3)-1), small(int64(n/24%3)-1), small(int64(n/72%3)-1)
		values, err := value.Eval(rows, m)
		if err != api.OK {
			t.Fatalf("Eval of %q: error %d", text, err)
		}
		if want := (meaning{rows.Syms, m.Tables}).of(e, nil); meant(values[terms[0]]).Cmp(want) != 0 {
			t.Fatalf("%q: by %v it has the value %v, but it says %v", text, m, meant(values[terms[0]]), want)
		}
	}
}
