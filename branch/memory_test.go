package branch_test

import (
	"slices"
	"testing"

	"elenchus/api"
)

// roomy is a list with room to spare, in which nothing may be written.
func roomy[T any](l []T, spare T) []T {
	return append(slices.Clone(l), spare, spare, spare, spare)[:len(l)]
}

// withSpare is a list with its spare room.
func withSpare[T any](l []T) []T {
	return l[:cap(l)]
}

// overwrite fills a list and its spare room.
func overwrite[T any](l []T, v T) {
	l = l[:cap(l)]
	for i := range l {
		l[i] = v
	}
}

func roomyInt(v api.Int) api.Int {
	return api.Int{Neg: v.Neg, Abs: roomy(v.Abs, 55)}
}

func (p problem) roomy() problem {
	out := problem{p.vars, roomy(p.rows, sum(7, 7)), roomy(p.bounds, most(66, 6))}
	for i, l := range p.rows {
		out.rows[i] = api.Linear{Parts: roomy(l.Parts, api.Part{Coef: of(77), Term: 78}), Const: roomyInt(l.Const)}
		for k, part := range l.Parts {
			out.rows[i].Parts[k].Coef = roomyInt(part.Coef)
		}
	}
	for i, b := range p.bounds {
		out.bounds[i].Val = roomyInt(b.Val)
	}
	return out
}

// sameInt asks whether nothing of a number, nor of its spare room, is changed.
func sameInt(a, b api.Int) bool {
	return a.Neg == b.Neg && len(a.Abs) == len(b.Abs) && slices.Equal(withSpare(a.Abs), withSpare(b.Abs))
}

func sameSum(a, b api.Linear) bool {
	samePart := func(x, y api.Part) bool { return x.Term == y.Term && sameInt(x.Coef, y.Coef) }
	return len(a.Parts) == len(b.Parts) && slices.EqualFunc(withSpare(a.Parts), withSpare(b.Parts), samePart) && sameInt(a.Const, b.Const)
}

func sameProblem(a, b problem) bool {
	sameBound := func(x, y api.Bound) bool { return x.Row == y.Row && x.Upper == y.Upper && sameInt(x.Val, y.Val) }
	return a.vars == b.vars && len(a.rows) == len(b.rows) && slices.EqualFunc(withSpare(a.rows), withSpare(b.rows), sameSum) &&
		len(a.bounds) == len(b.bounds) && slices.EqualFunc(withSpare(a.bounds), withSpare(b.bounds), sameBound)
}

// wipe overwrites all memory of a problem.
func (p problem) wipe() {
	for _, l := range p.rows {
		for _, part := range l.Parts {
			overwrite(part.Coef.Abs, 88)
		}
		overwrite(l.Const.Abs, 88)
		overwrite(l.Parts, api.Part{Coef: of(88), Term: 88})
	}
	for _, b := range p.bounds {
		overwrite(b.Val.Abs, 88)
	}
	overwrite(p.rows, sum(88, 88))
	overwrite(p.bounds, most(88, 88))
}

func (a answer) copy() answer {
	out := answer{kind: a.kind, core: slices.Clone(a.core), used: a.used}
	for _, n := range a.numbers {
		out.numbers = append(out.numbers, api.Int{Neg: n.Neg, Abs: slices.Clone(n.Abs)})
	}
	return out
}

// wipe overwrites all memory of an answer.
func (a answer) wipe() {
	for _, n := range a.numbers {
		overwrite(n.Abs, 99)
	}
	overwrite(a.numbers, below(99))
	overwrite(a.core, 99)
}

// exemplars are problems of each answer, at once and by branches, with numbers in forms in which they aren't
// told, and variables that stay 0, that are a bound, that are told by others.
func exemplars() []problem {
	rows := []api.Linear{
		{Parts: []api.Part{{Coef: of(1, 0), Term: 0}}, Const: of(0)},
		{Parts: []api.Part{{Coef: of(2), Term: 0}, {Coef: below(3, 0), Term: 1}}, Const: below(0, 0)},
		{}, {Parts: []api.Part{{Coef: of(0, 1, 0), Term: 3}}},
		{Parts: []api.Part{{Coef: of(1), Term: 4}}},
		{Parts: []api.Part{{Coef: of(6, 0), Term: 3}, {Coef: of(9), Term: 4}}},
		{Parts: []api.Part{{Coef: of(1), Term: 3}}},
	}
	p := problem{6, rows, nil}
	at := func(row int, upper bool, val api.Int) api.Bound { return api.Bound{Row: row, Upper: upper, Val: val} }
	return []problem{
		{}, p, p.of(at(0, false, of(5, 0))), p.of(at(0, true, of(0, 0)), at(1, true, below(7, 0)), at(2, true, of(0)), at(3, false, of(1, 2, 3, 0))),
		p.of(at(0, false, of(0, 4)), at(0, true, of(0, 4)), at(1, false, of(9)), at(1, true, of(9, 0)), at(4, true, below(2))),
		p.of(at(2, false, of(1, 0))), p.of(at(0, false, of(1)), at(0, true, below(1, 0))),
		p.of(at(0, false, of(0, 1)), at(0, true, of(0, 1)), at(4, false, of(0, 1)), at(4, true, of(0, 1))),
		p.of(at(5, false, of(7, 0)), at(5, true, of(8))),
		p.of(at(5, false, of(7, 0)), at(5, true, of(11)), at(6, true, of(0)), at(6, false, below(3, 0))),
		strip(0, 8, 8), strip(-5, 8, 7), strip(0, 99, 99), box([2]int64{0, 2}, [2]int64{-1, 1}).with(dense(5, 7), 3, 3),
		box([2]int64{1, 3}, [2]int64{0, 2}, [2]int64{0, 1}).with(dense(6, 10, 15), 31, 31),
	}
}

// What is handed in stays, and its spare room; it may be written over once the call has answered.
func TestHandedIn(t *testing.T) {
	for _, p := range exemplars() {
		for _, fuel := range []int{0, 1, 2, 5, 9, api.MaxFuel} {
			q := p.roomy()
			a := q.ask(t, fuel)
			if !sameProblem(q, p.roomy()) {
				t.Fatalf("Solve of %v changes what is handed in: %v", p, q)
			}
			was := a.copy()
			q.wipe()
			if !isSame(a, was) {
				t.Fatalf("Solve of %v: the answer is memory of what is handed in", p)
			}
			if b := p.ask(t, fuel); !isSame(b, was) {
				t.Fatalf("Solve of %v keeps what is handed in: %v, then %v", p, was, b)
			}
		}
	}
}

func TestRefusedStays(t *testing.T) {
	for _, p := range exemplars() {
		p.bounds = append(slices.Clone(p.bounds), api.Bound{Row: -1, Val: of(3, 0)})
		q := p.roomy()
		q.checkRefused(t, 100, api.ErrArg)
		p.rows = append(slices.Clone(p.rows), sum(1, 1, 1, 0))
		u := p.roomy()
		u.checkRefused(t, 100, api.ErrForm)
		u.checkRefused(t, -1, api.ErrArg)
		if !sameProblem(u, p.roomy()) {
			t.Fatalf("what is refused is changed: %v", u)
		}
	}
}

// What is answered may be written over: no other answer hangs on it, nor what was handed in.
func TestAnsweredIsNew(t *testing.T) {
	for _, p := range exemplars() {
		q := p.roomy()
		a, b := q.ask(t, api.MaxFuel), q.ask(t, api.MaxFuel)
		was := b.copy()
		a.wipe()
		if !isSame(b, was) {
			t.Fatalf("Solve of %v: two answers share memory", p)
		}
		if !sameProblem(q, p.roomy()) {
			t.Fatalf("Solve of %v: the answer is memory of what is handed in: %v", p, q)
		}
		if c := q.ask(t, api.MaxFuel); !isSame(c, was) {
			t.Fatalf("Solve of %v: %v, then %v", p, was, c)
		}
	}
}

// No two lists of one answer share memory, nor spare room.
func TestListsOfOneAnswerAreTheirOwn(t *testing.T) {
	for _, p := range exemplars() {
		a := p.ask(t, api.MaxFuel)
		for i, n := range a.numbers {
			overwrite(n.Abs, uint64(i+100))
		}
		for i, n := range a.numbers {
			if slices.ContainsFunc(withSpare(n.Abs), func(w uint64) bool { return w != uint64(i+100) }) {
				t.Fatalf("Solve of %v: two numbers of the answer share memory", p)
			}
		}
	}
}
