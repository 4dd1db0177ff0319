package stack_test

import (
	"slices"
	"testing"

	"elenchus/api"
	"elenchus/value"
)

// tried is rows, and what their terms are worth by models of near numbers, once it is asked for.
type tried struct {
	rows   api.Terms
	values [][]api.Int // by model
}

// near is how far from 0 numbers are tried.
const near = 2

// meet is the number of a model by which terms hold, among all of near numbers, or -1.
func (r *tried) meet(terms []int) int {
	if r.values == nil {
		r.values = [][]api.Int{}
		for _, m := range models(r.rows) {
			values, _ := value.Eval(r.rows, m)
			r.values = append(r.values, values)
		}
	}
	return slices.IndexFunc(r.values, func(values []api.Int) bool {
		return !slices.ContainsFunc(terms, func(n int) bool { return !isSameInt(values[n], small(1)) })
	})
}

// models are all of near numbers, as far as rows' symbols go: those that stand in no term are 0.
func models(r api.Terms) []api.Model {
	out := []api.Model{{}}
	for n, s := range r.Syms {
		tables := []api.Table{{}}
		if slices.ContainsFunc(r.Terms, func(t api.Term) bool { return t.Op == api.OpApp && t.Sym == n }) {
			tables = tablesOf(s)
		}
		var more []api.Model
		for _, m := range out {
			for _, table := range tables {
				more = append(more, api.Model{Tables: append(slices.Clone(m.Tables), table)})
			}
		}
		out = more
	}
	return out
}

// tablesOf are tables of a symbol: of one of no number all; of one of a number those that tell of 0 alone another thing.
func tablesOf(s api.Sym) []api.Table {
	reach := near
	if s.Arity > 0 {
		reach = 1
	}
	tells := numbers(-reach, reach)
	if s.Sort == api.Bool {
		tells = numbers(0, 1)
	}
	var out []api.Table
	for _, v := range tells {
		out = append(out, api.Table{Else: v})
		if s.Arity == 0 {
			continue
		}
		for _, other := range tells {
			if !isSameInt(v, other) {
				out = append(out, api.Table{Rows: []api.Row{{Args: []api.Int{small(0)}, Val: other}}, Else: v})
			}
		}
	}
	return out
}

func numbers(low, high int) []api.Int {
	var out []api.Int
	for v := low; v <= high; v++ {
		out = append(out, small(v))
	}
	return out
}

// Models are found where there are some by near numbers, and only such.
func TestTried(t *testing.T) {
	for text, want := range map[string]bool{
		"": true, "true": true, "false": false, "p": true, "p (not p)": false, "(= x 2)": true, "(= x 3)": false, "(< x y) (< y x)": false, "(< x y) (< 1 y)": true, "(= (* 2 x) 3)": false,
		"(= (f 0) 1) (= (f 1) 0)": true, "(= (f x) 1) (= (f y) 0) (= x y)": false, "(b 0) (not (b 1))": true, "(b x) (not (b y)) (= x y)": false, "(xor p q) (= p q)": false, "(= (ite p x y) 2) (= x 1)": true,
	} {
		k := read(t, "check "+text)
		if m := k.meet(k.cmds[0].Terms); (m >= 0) != want {
			t.Errorf("%q: %d", text, m)
		}
	}
}

// What is asserted at a check is told right by the way back.
func TestQuestions(t *testing.T) {
	k := task{}.with(cmd(3, 7), cmd(4), cmd(1), cmd(3, 8, 9), cmd(4, 5), cmd(1), cmd(3, 4), cmd(2), cmd(3), cmd(4, 7, 7), cmd(2), cmd(4), cmd(1), cmd(1), cmd(3, 6), cmd(4), cmd(2), cmd(2), cmd(3, 2), cmd(4, 1))
	want := []question{{[]int{7}, nil}, {[]int{8, 9, 7}, []int{5}}, {[]int{8, 9, 7}, []int{7, 7}}, {[]int{7}, nil}, {[]int{6, 7}, nil}, {[]int{2, 7}, []int{1}}}
	got := k.questions()
	if !slices.EqualFunc(got, want, func(a, b question) bool {
		return slices.Equal(a.asserts, b.asserts) && slices.Equal(a.assume, b.assume)
	}) {
		t.Fatalf("%v, not %v", got, want)
	}
}
