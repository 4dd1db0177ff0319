package smt_test

import (
	"strconv"
	"strings"
	"testing"

	"elenchus/api"
)

// trial tries values of terms: first those of symbols, term by term.
type trial struct {
	rows   api.Terms
	asked  []bool // by term: whether it is to hold, or one that is to hangs on it
	must   []bool // by term
	reach  int64
	values []int64
}

// meet is values of terms, of near numbers, by which some hold, or nil. Whatever tables symbols may have
// counts, as far as they tell near numbers; of terms on which nothing hangs the values are 0.
func (q question) meet(terms []int, reach int64) []int64 {
	n := len(q.rows.Terms)
	tr := trial{q.rows, make([]bool, n), make([]bool, n), reach, make([]int64, 0, n)}
	for _, t := range terms {
		tr.asked[t], tr.must[t] = true, true
	}
	for t := n - 1; t >= 0; t-- {
		for _, part := range q.rows.Terms[t].Args {
			tr.asked[part] = tr.asked[part] || tr.asked[t]
		}
	}
	if !tr.extend() {
		return nil
	}
	return tr.values
}

// extend tries all that the next term may be worth.
func (tr *trial) extend() bool {
	n := len(tr.values)
	if n == len(tr.rows.Terms) {
		return true
	}
	low, high := tr.left(n)
	for v := low; v <= high; v++ {
		if tr.must[n] && v == 0 {
			continue
		}
		tr.values = append(tr.values, v)
		if tr.extend() {
			return true
		}
		tr.values = tr.values[:n]
	}
	return false
}

// left is from where to where a term may be.
func (tr *trial) left(n int) (int64, int64) {
	t := tr.rows.Terms[n]
	switch {
	case !tr.asked[n]:
		return 0, 0
	case t.Op != api.OpApp:
		v := tr.worth(t)
		return v, v
	}
	for k, o := range tr.rows.Terms[:n] {
		if o.Op == api.OpApp && o.Sym == t.Sym && tr.asked[k] && tr.areSame(o.Args, t.Args) {
			return tr.values[k], tr.values[k]
		}
	}
	if tr.rows.Syms[t.Sym].Sort == api.Bool {
		return 0, 1
	}
	return -tr.reach, tr.reach
}

func (tr *trial) areSame(a, b []int) bool {
	for i := range a {
		if tr.values[a[i]] != tr.values[b[i]] {
			return false
		}
	}
	return true
}

// worth is the value of a term of no symbol, by its parts' values.
func (tr *trial) worth(t api.Term) int64 {
	part := func(i int) int64 { return tr.values[t.Args[i]] }
	switch t.Op {
	case api.OpTrue:
		return 1
	case api.OpNum:
		return meant(t.Num).Int64()
	case api.OpNot:
		return 1 - part(0)
	case api.OpIff, api.OpEq:
		return truth(part(0) == part(1))
	case api.OpIte:
		return map[int64]int64{1: part(1), 0: part(2)}[part(0)]
	case api.OpLe:
		return truth(part(0) <= part(1))
	case api.OpMul:
		return meant(t.Num).Int64() * part(0)
	}
	count, sum := 0, int64(0)
	for i := range t.Args {
		sum += part(i)
		if part(i) != 0 {
			count++
		}
	}
	switch t.Op {
	case api.OpAnd:
		return truth(count == len(t.Args))
	case api.OpOr:
		return truth(count > 0)
	case api.OpAdd:
		return sum
	}
	return 0 // OpFalse
}

func truth(holds bool) int64 {
	if holds {
		return 1
	}
	return 0
}

// String is a question as a text: its terms one by one, unless they are very many.
func (q question) String() string {
	ops := []string{api.OpTrue: "true", api.OpFalse: "false", api.OpNot: "not", api.OpAnd: "and", api.OpOr: "or", api.OpIff: "iff", api.OpIte: "ite", api.OpEq: "eq", api.OpLe: "le", api.OpAdd: "add"}
	var out strings.Builder
	for n, t := range q.rows.Terms[:min(len(q.rows.Terms), 200)] {
		name := "op" + strconv.Itoa(t.Op)
		switch {
		case t.Op == api.OpNum || t.Op == api.OpMul:
			name = map[int]string{api.OpNum: "#", api.OpMul: "*"}[t.Op] + meant(t.Num).String()
		case t.Op == api.OpApp && t.Sym >= 0 && t.Sym < len(q.rows.Syms):
			name = q.rows.Syms[t.Sym].Name
		case t.Op > 0 && t.Op < len(ops):
			name = ops[t.Op]
		}
		out.WriteString(strconv.Itoa(n) + ": " + name)
		for _, part := range t.Args {
			out.WriteString(" " + strconv.Itoa(part))
		}
		out.WriteString(" | ")
	}
	for _, l := range [][]int{q.asserts, q.assume} {
		out.WriteString("[ ")
		for _, n := range l {
			out.WriteString(strconv.Itoa(n) + " ")
		}
		out.WriteString("]")
	}
	return out.String()
}

// Models are found where there are some by near numbers, and only such.
func TestTrial(t *testing.T) {
	for text, want := range map[string]bool{
		"": true, "true": true, "false": false, "p": true, "p (not p)": false, "(= x 3)": true, "(= x 4)": false, "(= (+ x y) 6)": true, "(= (+ x y) 7)": false,
		"(= (f x) 1) (= (f y) 2)": true, "(= (f x) 1) (= (f y) 2) (= x y)": false, "(distinct (g x y) (g y x))": true, "(distinct (g x y) (g y x)) (= x y)": false,
		"(b x) (not (b (+ y 1))) (= x y)": true, "(b x) (not (b y)) (= x y)": false, "(= (ite p x y) 2) (= x 1) p": false, "(= (ite p x y) 2) (= x 1)": true,
		"(= (* 2 x) 3)": false, "(= (* (- 2) x) 4)": true, "(xor p q) (= p q)": false, "(or p q) (=> p s) (=> q s) (not s)": false, "(or p q) (=> p s) (=> q s)": true,
		"(< x y) (< y z) (< z 0)": true, "(< x y) (< y z) (< z (- 1))": false, "(ite p q s) (not q) p": false, "(ite p q s) (not q) s": true,
	} {
		q := read(t, text, "")
		if values := q.meet(q.asserts, near); (values != nil) != want {
			t.Errorf("%q: %v", text, values)
		}
	}
}
