package front_test

import (
	"math/big"
	"slices"
	"strings"

	"elenchus/api"
)

// other reads expressions in another way than the program: terms are found by their texts, one by one,
// and behind the first thing that is wrong nothing is made any more.
type other struct {
	syms  []api.Sym
	terms []string   // as they are shown, symbols marked
	sorts []int      // of terms
	fixed []*big.Int // of terms: their values, if they are fixed
	names map[string]int
	at    int
	err   api.Errno
	loose bool // whether there may be more terms: what was made of the list with which something is wrong isn't kept here
}

func newOther(syms []api.Sym) *other {
	return &other{syms: syms, names: map[string]int{}}
}

func (o *other) fail(at int, err api.Errno) int {
	if o.err == api.OK {
		o.at, o.err = at, err
	}
	return 0
}

// put is the number of a term, by what is shown of it.
func (o *other) put(at int, shown string, sort int, fixed *big.Int) int {
	if o.err != api.OK {
		return 0
	}
	if n := slices.Index(o.terms, shown); n >= 0 {
		return n
	}
	if len(o.terms) == api.MaxTerms {
		return o.fail(at, api.ErrLong)
	}
	o.terms, o.sorts, o.fixed = append(o.terms, shown), append(o.sorts, sort), append(o.fixed, fixed)
	return len(o.terms) - 1
}

func numbers(parts []int) string {
	var out strings.Builder
	for _, n := range parts {
		out.WriteString(" " + big.NewInt(int64(n)).String())
	}
	return out.String()
}

// made is a term of parts that have to be of the sort of sorts, by its place.
func (o *other) made(at int, name string, sort int, sorts []int, parts ...int) int {
	if o.err != api.OK {
		return 0
	}
	for i, n := range parts {
		if o.sorts[n] != sorts[min(i, len(sorts)-1)] {
			return o.fail(at, api.ErrSort)
		}
	}
	var fixed *big.Int
	if name == "add" {
		fixed = new(big.Int)
		for _, n := range parts {
			if o.fixed[n] == nil || fixed == nil {
				fixed = nil
				continue
			}
			fixed = new(big.Int).Add(fixed, o.fixed[n])
		}
	}
	return o.put(at, name+numbers(parts), sort, fixed)
}

func (o *other) bools(at int, name string, parts ...int) int {
	return o.made(at, name, api.Bool, []int{api.Bool}, parts...)
}

func (o *other) num(at int, v *big.Int) int {
	return o.put(at, v.String(), api.Whole, v)
}

func (o *other) mul(at int, k *big.Int, n int) int {
	if o.err == api.OK && o.sorts[n] != api.Whole {
		return o.fail(at, api.ErrSort)
	}
	var fixed *big.Int
	if o.err == api.OK && o.fixed[n] != nil {
		fixed = new(big.Int).Mul(k, o.fixed[n])
	}
	return o.put(at, "mul "+k.String()+numbers([]int{n}), api.Whole, fixed)
}

// read is an expression's number; names are those of the lets around.
func (o *other) read(e api.Expr, names map[string]int) int {
	if o.err != api.OK {
		return 0
	}
	switch e.Kind {
	case api.Numeral:
		return o.num(e.At, number(e.Text))
	case api.Symbol:
		return o.name(e, names)
	case api.List:
		return o.list(e, names)
	}
	return o.fail(e.At, api.ErrForm)
}

func (o *other) name(e api.Expr, names map[string]int) int {
	if e.Text == "true" || e.Text == "false" {
		return o.put(e.At, e.Text, api.Bool, nil)
	}
	if n, ok := names[e.Text]; ok {
		return n
	}
	if n, ok := o.names[e.Text]; ok {
		return n
	}
	return o.app(e, e, nil)
}

// app is a symbol of parts.
func (o *other) app(e, head api.Expr, parts []int) int {
	i := slices.IndexFunc(o.syms, func(s api.Sym) bool { return s.Name == head.Text })
	switch {
	case o.err != api.OK:
		return 0
	case i < 0:
		return o.fail(head.At, api.ErrName)
	case o.syms[i].Arity != len(parts):
		return o.fail(e.At, api.ErrCount)
	}
	return o.made(e.At, "symbol "+head.Text, o.syms[i].Sort, []int{api.Whole}, parts...)
}

func (o *other) list(e api.Expr, names map[string]int) int {
	if len(e.Parts) == 0 || e.Parts[0].Kind != api.Symbol {
		return o.fail(e.At, api.ErrForm)
	}
	head := e.Parts[0]
	if head.Text == "let" {
		return o.let(e, names)
	}
	_, isOperator := counts()[head.Text]
	if !isOperator && !slices.ContainsFunc(o.syms, func(s api.Sym) bool { return s.Name == head.Text }) {
		o.loose = true
		return o.fail(head.At, api.ErrName)
	}
	var parts []int
	for _, part := range e.Parts[1:] {
		parts = append(parts, o.read(part, names))
	}
	if o.err != api.OK {
		return 0
	}
	ahead, out := len(o.terms), 0
	if isOperator {
		out = o.operator(e.At, head.Text, parts)
	} else {
		out = o.app(e, head, parts)
	}
	if o.err != api.OK {
		o.loose, o.terms = true, o.terms[:ahead]
	}
	return out
}

func (o *other) let(e api.Expr, names map[string]int) int {
	ok := len(e.Parts) == 3 && e.Parts[1].Kind == api.List && len(e.Parts[1].Parts) > 0
	for i := 0; ok && i < len(e.Parts[1].Parts); i++ {
		binding := e.Parts[1].Parts[i]
		ok = binding.Kind == api.List && len(binding.Parts) == 2 && binding.Parts[0].Kind == api.Symbol
	}
	if !ok {
		return o.fail(e.At, api.ErrForm)
	}
	inner, own := map[string]int{}, map[string]bool{}
	for name, n := range names {
		inner[name] = n
	}
	for _, binding := range e.Parts[1].Parts {
		n := o.read(binding.Parts[1], names)
		if name := binding.Parts[0]; own[name.Text] {
			o.fail(name.At, api.ErrName)
		}
		inner[binding.Parts[0].Text], own[binding.Parts[0].Text] = n, true
	}
	return o.read(e.Parts[2], inner)
}

// counts are the least and the greatest number of parts of each operator.
func counts() map[string][2]int {
	const many = 1 << 30
	return map[string][2]int{
		"not": {1, 1}, "and": {1, 64}, "or": {1, 64}, "=>": {2, 64}, "xor": {2, many}, "=": {2, 65}, "distinct": {2, 11}, "ite": {3, 3},
		"+": {1, 64}, "-": {1, 64}, "*": {1, many}, "<=": {2, 65}, "<": {2, 65}, ">=": {2, 65}, ">": {2, 65},
	}
}

// shown are the Ops of the operators of which each makes one term.
var shown = map[string]string{"and": "and", "or": "or", "+": "add", "not": "not"}

func (o *other) operator(at int, op string, parts []int) int {
	if c := counts()[op]; len(parts) < c[0] || len(parts) > c[1] {
		return o.fail(at, api.ErrCount)
	}
	first, rest := parts[0], parts[1:]
	switch op {
	case "not":
		return o.bools(at, "not", first)
	case "and", "or", "+", "*":
		if len(rest) == 0 {
			return first
		}
		if op == "*" {
			return o.times(at, parts)
		}
		if op == "+" {
			return o.made(at, "add", api.Whole, []int{api.Whole}, parts...)
		}
		return o.bools(at, shown[op], parts...)
	case "=>":
		sides := []int{}
		for _, n := range parts[:len(rest)] {
			sides = append(sides, o.bools(at, "not", n))
		}
		return o.bools(at, "or", append(sides, parts[len(rest)])...)
	case "xor":
		for _, n := range rest {
			first = o.bools(at, "not", o.bools(at, "iff", first, n))
		}
		return first
	case "ite":
		return o.ite(at, parts)
	case "-":
		if len(rest) == 0 {
			return o.mul(at, big.NewInt(-1), first)
		}
		sides := []int{first}
		for _, n := range rest {
			sides = append(sides, o.mul(at, big.NewInt(-1), n))
		}
		return o.made(at, "add", api.Whole, []int{api.Whole}, sides...)
	}
	return o.compared(at, op, parts)
}

func (o *other) ite(at int, parts []int) int {
	sort := o.sorts[parts[1]]
	return o.made(at, "ite", sort, []int{api.Bool, sort}, parts...)
}

func (o *other) times(at int, parts []int) int {
	product, left := big.NewInt(1), []int{}
	for _, n := range parts {
		if o.sorts[n] != api.Whole {
			return o.fail(at, api.ErrSort)
		}
		if o.fixed[n] == nil {
			left = append(left, n)
			continue
		}
		product.Mul(product, o.fixed[n])
	}
	switch len(left) {
	case 0:
		return o.num(at, product)
	case 1:
		return o.mul(at, product, left[0])
	}
	return o.fail(at, api.ErrPower)
}

// compared holds neighbours against each other, or, to be distinct, each two.
func (o *other) compared(at int, op string, parts []int) int {
	var all []int
	for i := range parts {
		for j := i + 1; j < len(parts); j++ {
			if j == i+1 || op == "distinct" {
				all = append(all, o.pair(at, op, parts[i], parts[j]))
			}
		}
	}
	if len(all) == 1 {
		return all[0]
	}
	return o.bools(at, "and", all...)
}

func (o *other) pair(at int, op string, a, b int) int {
	if o.err != api.OK {
		return 0
	}
	numbers := []int{api.Whole}
	switch op {
	case "=":
		if o.sorts[a] == api.Bool {
			return o.bools(at, "iff", a, b)
		}
		return o.made(at, "eq", api.Bool, numbers, a, b)
	case "distinct":
		return o.bools(at, "not", o.pair(at, "=", a, b))
	case "<=":
		return o.made(at, "le", api.Bool, numbers, a, b)
	case "<":
		more := o.made(at, "add", api.Whole, numbers, a, o.num(at, big.NewInt(1)))
		return o.made(at, "le", api.Bool, numbers, more, b)
	case ">=":
		return o.pair(at, "<=", b, a)
	}
	return o.pair(at, "<", b, a)
}

// showMarked shows rows' terms as they are shown here, symbols marked, so that the symbol 1 isn't the number 1.
func showMarked(r api.Terms) []string {
	var out []string
	for _, what := range r.Terms {
		text := showTerm(r.Syms, what)
		if what.Op == api.OpApp {
			text = "symbol " + text
		}
		out = append(out, text)
	}
	return out
}
