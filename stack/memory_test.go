package stack_test

import (
	"slices"
	"testing"

	"elenchus/api"
	"elenchus/stack"
)

// roomy is a list with room to spare, in which nothing may be written.
func roomy[T any](l []T, spare T) []T {
	return append(slices.Clone(l), spare, spare, spare, spare)[:len(l)]
}

// withSpare is a list with its spare room.
func withSpare[T any](l []T) []T {
	return l[:cap(l)]
}

// overwrite fills a list and its spare room.
func overwrite[T any](l []T, v T) {
	l = l[:cap(l)]
	for i := range l {
		l[i] = v
	}
}

// roomy is a task whose lists all have room to spare, and whose numbers have words that say nothing.
func (k task) roomy() task {
	r := api.Terms{Syms: roomy(k.rows.Syms, api.Sym{Name: "spare", Sort: api.Bool}), Terms: roomy(k.rows.Terms, api.Term{Op: api.OpTrue})}
	for n, t := range k.rows.Terms {
		r.Terms[n].Args = roomy(t.Args, 55)
		r.Terms[n].Num.Abs = roomy(t.Num.Abs, 44)
		if len(t.Num.Abs) > 0 {
			r.Terms[n].Num.Abs = roomy(append(slices.Clone(t.Num.Abs), 0), 44)
		}
	}
	cmds := roomy(k.cmds, cmd(api.CmdCheck))
	for i, c := range k.cmds {
		cmds[i].Terms = roomy(c.Terms, 66)
	}
	return taskOf(r, cmds...)
}

// areSame asks whether lists are, their spare room too.
func areSame[T comparable](a, b []T) bool {
	return len(a) == len(b) && slices.Equal(withSpare(a), withSpare(b))
}

// isUnchanged asks whether nothing of a task, nor of its spare room, is another thing.
func isUnchanged(a, b task) bool {
	isSameTerm := func(a, b api.Term) bool {
		return a.Op == b.Op && a.Sym == b.Sym && a.Num.Neg == b.Num.Neg && areSame(a.Args, b.Args) && areSame(a.Num.Abs, b.Num.Abs)
	}
	isSameCmd := func(a, b api.Cmd) bool { return a.Kind == b.Kind && areSame(a.Terms, b.Terms) }
	return areSame(a.rows.Syms, b.rows.Syms) && len(a.rows.Terms) == len(b.rows.Terms) && len(a.cmds) == len(b.cmds) &&
		slices.EqualFunc(withSpare(a.rows.Terms), withSpare(b.rows.Terms), isSameTerm) && slices.EqualFunc(withSpare(a.cmds), withSpare(b.cmds), isSameCmd)
}

// wipe overwrites all memory of a task.
func (k task) wipe() {
	for _, t := range k.rows.Terms {
		overwrite(t.Args, 88)
		overwrite(t.Num.Abs, 88)
	}
	for _, c := range k.cmds {
		overwrite(c.Terms, 88)
	}
	overwrite(k.rows.Terms, api.Term{Op: 88})
	overwrite(k.rows.Syms, api.Sym{Name: "88"})
	overwrite(k.cmds, cmd(88, 88))
}

// lists are all lists of an answer.
type lists struct {
	words   []api.Nat
	numbers [][]api.Int
	rows    [][]api.Row
	tables  [][]api.Table
	cores   [][]int
}

func (a result) lists() lists {
	var out lists
	for _, one := range a.answers {
		out.cores = append(out.cores, one.Core)
		out.tables = append(out.tables, one.Model.Tables)
		for _, table := range one.Model.Tables {
			out.rows = append(out.rows, table.Rows)
			out.words = append(out.words, table.Else.Abs)
			for _, row := range table.Rows {
				out.numbers = append(out.numbers, row.Args)
				out.words = append(out.words, row.Val.Abs)
				for _, arg := range row.Args {
					out.words = append(out.words, arg.Abs)
				}
			}
		}
	}
	return out
}

// apart fails if two lists share memory, or spare room.
func apart[T any](t *testing.T, lists [][]T, made func(int) T, isMade func(T, int) bool) {
	t.Helper()
	for i, l := range lists {
		overwrite(l, made(i))
	}
	for i, l := range lists {
		if slices.ContainsFunc(withSpare(l), func(one T) bool { return !isMade(one, i) }) {
			t.Fatalf("two lists of one answer share memory: %v", l)
		}
	}
}

// wipe overwrites all memory of an answer; it fails if two lists share any.
func (a result) wipe(t *testing.T) {
	t.Helper()
	l := a.lists()
	words := make([][]uint64, len(l.words))
	for i, one := range l.words {
		words[i] = one
	}
	apart(t, words, func(i int) uint64 { return uint64(i) + 100 }, func(w uint64, i int) bool { return w == uint64(i)+100 })
	apart(t, l.numbers, func(i int) api.Int { return small(i + 1) }, func(n api.Int, i int) bool { return isSameInt(n, small(i+1)) })
	apart(t, l.rows, func(i int) api.Row { return api.Row{Val: small(i + 1)} }, func(r api.Row, i int) bool { return isSameInt(r.Val, small(i+1)) })
	apart(t, l.tables, func(i int) api.Table { return api.Table{Else: small(i + 1)} }, func(m api.Table, i int) bool { return isSameInt(m.Else, small(i+1)) })
	apart(t, l.cores, func(i int) int { return i + 100 }, func(n, i int) bool { return n == i+100 })
	overwrite(a.answers, api.Answer{Kind: 99})
}

// copy is an answer with memory of its own.
func (a result) copy() result {
	own := func(n api.Int) api.Int { return api.Int{Neg: n.Neg, Abs: slices.Clone(n.Abs)} }
	out := result{used: a.used}
	for _, one := range a.answers {
		b := api.Answer{Kind: one.Kind, Core: slices.Clone(one.Core)}
		for _, table := range one.Model.Tables {
			m := api.Table{Else: own(table.Else)}
			for _, row := range table.Rows {
				line := api.Row{Val: own(row.Val)}
				for _, arg := range row.Args {
					line.Args = append(line.Args, own(arg))
				}
				m.Rows = append(m.Rows, line)
			}
			b.Model.Tables = append(b.Model.Tables, m)
		}
		out.answers = append(out.answers, b)
	}
	return out
}

// What is handed in stays, and its spare room; it may be written over once the call has answered.
func TestHandedIn(t *testing.T) {
	for _, p := range exemplars(t) {
		for _, fuel := range []int{0, 1, 5, api.MaxFuel} {
			k := p.roomy()
			a := k.run(t, fuel)
			if !isUnchanged(k, p.roomy()) {
				t.Fatalf("Run of %s changes what is handed in: %s", p, k)
			}
			was := a.copy()
			k.wipe()
			if !isSame(a, was) {
				t.Fatalf("Run of %s: the answer is memory of what is handed in", p)
			}
			if b := p.run(t, fuel); !isSame(b, was) {
				t.Fatalf("Run of %s keeps what is handed in: %v, then %v", p, was, b)
			}
		}
	}
}

func TestRefusedStays(t *testing.T) {
	k := plain(t)
	for _, f := range faults(t) {
		bad := k.with(append(slices.Clone(k.cmds), f.cmd)...)
		q := bad.roomy()
		if _, _, e := stack.Run(q.rows, q.cmds, 1000); e != f.err || !isUnchanged(q, bad.roomy()) {
			t.Fatalf("Run of %s: error %d, and what is handed in is %s", bad, e, q)
		}
	}
}

// What is answered may be written over: no other answer hangs on it, nor what was handed in; no two lists of it share memory.
func TestAnsweredIsNew(t *testing.T) {
	for _, p := range exemplars(t) {
		k := p.roomy()
		a, b := k.run(t, api.MaxFuel), k.run(t, api.MaxFuel)
		was := b.copy()
		a.wipe(t)
		if !isSame(b, was) {
			t.Fatalf("Run of %s: two answers share memory", p)
		}
		if !isUnchanged(k, p.roomy()) {
			t.Fatalf("Run of %s: the answer is memory of what is handed in", p)
		}
		if c := k.run(t, api.MaxFuel); !isSame(c, was) {
			t.Fatalf("Run of %s: %v, then %v", p, was, c)
		}
	}
}
