package smt_test

import (
	"slices"
	"testing"

	"elenchus/api"
	"elenchus/smt"
)

// roomy is a list with room to spare, in which nothing may be written.
func roomy[T any](l []T, spare T) []T {
	return append(slices.Clone(l), spare, spare, spare, spare)[:len(l)]
}

// withSpare is a list with its spare room.
func withSpare[T any](l []T) []T {
	return l[:cap(l)]
}

// overwrite fills a list and its spare room.
func overwrite[T any](l []T, v T) {
	l = l[:cap(l)]
	for i := range l {
		l[i] = v
	}
}

// roomy is a question whose lists all have room to spare, and whose numbers have words that say nothing.
func (q question) roomy() question {
	out := question{asserts: roomy(q.asserts, 66), assume: roomy(q.assume, 77)}
	out.rows.Syms = roomy(q.rows.Syms, api.Sym{Name: "spare", Sort: api.Bool})
	out.rows.Terms = roomy(q.rows.Terms, api.Term{Op: api.OpTrue})
	for n, t := range q.rows.Terms {
		out.rows.Terms[n].Args = roomy(t.Args, 55)
		out.rows.Terms[n].Num.Abs = roomy(t.Num.Abs, 44)
		if len(t.Num.Abs) > 0 {
			out.rows.Terms[n].Num.Abs = roomy(append(slices.Clone(t.Num.Abs), 0), 44)
		}
	}
	return out
}

func sameTerm(a, b api.Term) bool {
	return a.Op == b.Op && a.Sym == b.Sym && a.Num.Neg == b.Num.Neg && len(a.Args) == len(b.Args) && slices.Equal(withSpare(a.Args), withSpare(b.Args)) &&
		len(a.Num.Abs) == len(b.Num.Abs) && slices.Equal(withSpare(a.Num.Abs), withSpare(b.Num.Abs))
}

// isUnchanged asks whether nothing of a question, nor of its spare room, is another thing.
func isUnchanged(a, b question) bool {
	return len(a.asserts) == len(b.asserts) && slices.Equal(withSpare(a.asserts), withSpare(b.asserts)) && len(a.assume) == len(b.assume) && slices.Equal(withSpare(a.assume), withSpare(b.assume)) &&
		len(a.rows.Syms) == len(b.rows.Syms) && slices.Equal(withSpare(a.rows.Syms), withSpare(b.rows.Syms)) && len(a.rows.Terms) == len(b.rows.Terms) && slices.EqualFunc(withSpare(a.rows.Terms), withSpare(b.rows.Terms), sameTerm)
}

// wipe overwrites all memory of a question.
func (q question) wipe() {
	for _, t := range q.rows.Terms {
		overwrite(t.Args, 88)
		overwrite(t.Num.Abs, 88)
	}
	overwrite(q.rows.Terms, api.Term{Op: 88})
	overwrite(q.rows.Syms, api.Sym{Name: "88"})
	overwrite(q.asserts, 88)
	overwrite(q.assume, 88)
}

// lists are all lists of numbers, and of words, of an answer.
func (a answer) lists() ([][]api.Int, []api.Nat) {
	var numbers [][]api.Int
	var words []api.Nat
	for _, t := range a.Model.Tables {
		words = append(words, t.Else.Abs)
		for _, row := range t.Rows {
			numbers, words = append(numbers, row.Args), append(words, row.Val.Abs)
			for _, arg := range row.Args {
				words = append(words, arg.Abs)
			}
		}
	}
	return numbers, words
}

func (a answer) copy() answer {
	out := answer{api.Answer{Kind: a.Kind, Core: slices.Clone(a.Core)}, a.used}
	own := func(n api.Int) api.Int { return api.Int{Neg: n.Neg, Abs: slices.Clone(n.Abs)} }
	for _, t := range a.Model.Tables {
		table := api.Table{Else: own(t.Else)}
		for _, row := range t.Rows {
			line := api.Row{Val: own(row.Val)}
			for _, arg := range row.Args {
				line.Args = append(line.Args, own(arg))
			}
			table.Rows = append(table.Rows, line)
		}
		out.Model.Tables = append(out.Model.Tables, table)
	}
	return out
}

// wipe overwrites all memory of an answer.
func (a answer) wipe() {
	numbers, words := a.lists()
	for _, l := range words {
		overwrite(l, 99)
	}
	for _, l := range numbers {
		overwrite(l, small(99))
	}
	for _, t := range a.Model.Tables {
		overwrite(t.Rows, api.Row{Val: small(99)})
	}
	overwrite(a.Model.Tables, api.Table{Else: small(99)})
	overwrite(a.Core, 99)
}

// What is handed in stays, and its spare room; it may be written over once the call has answered.
func TestHandedIn(t *testing.T) {
	for _, p := range append(exemplars(t), outgrowing(t)) {
		for _, fuel := range []int{0, 1, 3, api.MaxFuel} {
			q := p.roomy()
			a := q.ask(t, fuel)
			if !isUnchanged(q, p.roomy()) {
				t.Fatalf("Solve of %s changes what is handed in: %s", p, q)
			}
			was := a.copy()
			q.wipe()
			if !isSame(a, was) {
				t.Fatalf("Solve of %s: the answer is memory of what is handed in", p)
			}
			if b := p.ask(t, fuel); !isSame(b, was) {
				t.Fatalf("Solve of %s keeps what is handed in: %v, then %v", p, was, b)
			}
		}
	}
}

func TestRefusedStays(t *testing.T) {
	for _, p := range exemplars(t) {
		for _, bad := range []question{p.of(p.asserts, append(slices.Clone(p.assume), -1)), p.of(append(slices.Clone(p.asserts), len(p.rows.Terms)), p.assume), {with(p.rows, api.Term{}), p.asserts, p.assume}} {
			q := bad.roomy()
			if _, _, e := smt.Solve(q.rows, q.asserts, q.assume, 100); e == api.OK || !isUnchanged(q, bad.roomy()) {
				t.Fatalf("Solve of %s: error %d, and what is handed in is %s", bad, e, q)
			}
		}
	}
}

// What is answered may be written over: no other answer hangs on it, nor what was handed in.
func TestAnsweredIsNew(t *testing.T) {
	for _, p := range append(exemplars(t), outgrowing(t)) {
		q := p.roomy()
		a, b := q.ask(t, api.MaxFuel), q.ask(t, api.MaxFuel)
		was := b.copy()
		a.wipe()
		if !isSame(b, was) {
			t.Fatalf("Solve of %s: two answers share memory", p)
		}
		if !isUnchanged(q, p.roomy()) {
			t.Fatalf("Solve of %s: the answer is memory of what is handed in", p)
		}
		if c := q.ask(t, api.MaxFuel); !isSame(c, was) {
			t.Fatalf("Solve of %s: %v, then %v", p, was, c)
		}
	}
}

// No two lists of one answer share memory, nor spare room.
func TestListsOfOneAnswerAreTheirOwn(t *testing.T) {
	for _, p := range append(exemplars(t), outgrowing(t)) {
		numbers, words := p.ask(t, api.MaxFuel).lists()
		for i, l := range words {
			overwrite(l, uint64(i+100))
		}
		for i, l := range words {
			if slices.ContainsFunc(withSpare(l), func(w uint64) bool { return w != uint64(i+100) }) {
				t.Fatalf("Solve of %s: two numbers of the answer share memory", p)
			}
		}
		for i, l := range numbers {
			overwrite(l, small(int64(i+1)))
		}
		for i, l := range numbers {
			if slices.ContainsFunc(withSpare(l), func(n api.Int) bool { return !isSameInt(n, small(int64(i+1))) }) {
				t.Fatalf("Solve of %s: two rows of the answer share memory", p)
			}
		}
	}
}
