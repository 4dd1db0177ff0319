package stack_test

import (
	"math/rand/v2"
	"slices"
	"strings"
	"testing"

	"elenchus/api"
	"elenchus/pool"
	"elenchus/smt"
)

// simple are conditions over x, y, p and q alone.
func simple() []string {
	return []string{
		"p", "q", "(not p)", "(or p q)", "(xor p q)", "(= p q)", "(=> p (< x y))", "(=> (not q) (= x 1))", "(ite p (< x 0) (> y 0))", "(< x y)", "(not (< x y))", "(< y x)", "(= x y)", "(distinct x y)", "(<= x 0)", "(>= x 1)",
		"(= y (+ x 1))", "(= (* 2 x) y)", "(= (* 2 y) 3)", "(= (ite p x y) 1)", "(< (+ x y) 2)", "(= (+ x (* 3 y)) 4)", "(distinct x y 0 1)", "true", "false",
	}
}

// ofNumbers are conditions over functions, too.
func ofNumbers() []string {
	return []string{"(= (f x) 1)", "(= (f y) 0)", "(< (f x) (f y))", "(b x)", "(not (b y))", "(b (f x))", "(= (f (f x)) x)", "(= (f 0) y)", "(= (b 0) p)", "(ite (b x) (= (f 1) x) (< y x))"}
}

// anyRows are rows of some conditions, and of all that stands within them.
func anyRows(t *testing.T, r *rand.Rand, always string, some []string) task {
	t.Helper()
	lines := []string{"assert " + always}
	for range 3 + r.IntN(6) {
		c := anyOf(r, some...)
		lines = append(lines, "assert "+c)
		if r.IntN(3) == 0 {
			lines = append(lines, "assert (not "+c+")")
		}
	}
	return read(t, lines...)
}

// truths are the terms of Bool.
func (k task) truths() []int {
	p, _ := pool.New(k.rows.Syms)
	var out []int
	for _, term := range k.rows.Terms {
		n, _ := p.Make(term)
		if sort, _ := p.Sort(n); sort == api.Bool {
			out = append(out, n)
		}
	}
	return out
}

// anyTerms are at most so many.
func anyTerms(r *rand.Rand, some []int, most int) []int {
	var out []int
	for range r.IntN(most + 1) {
		out = append(out, anyOf(r, some...))
	}
	return out
}

// anyCmds are so many commands over some terms, and mostly one behind another that aren't done in vain.
func anyCmds(r *rand.Rand, some []int, count int) []api.Cmd {
	var out []api.Cmd
	depth := 0
	for len(out) < count {
		switch kind := anyOf(r, api.CmdPush, api.CmdPush, api.CmdPop, api.CmdAssert, api.CmdAssert, api.CmdCheck, api.CmdCheck); {
		case kind == api.CmdPush:
			depth++
			out = append(out, cmd(kind))
		case kind == api.CmdPop && depth > 0:
			depth--
			out = append(out, cmd(kind))
		case kind == api.CmdAssert:
			out = append(out, cmd(kind, anyTerms(r, some, 3)...))
		case kind == api.CmdCheck:
			out = append(out, cmd(kind), cmd(kind, anyTerms(r, some, 5)...)) // the first one asks whether what is asserted clashes alone
		}
	}
	return out
}

// checkNoCores fails if a Core is told, though what is asserted clashes alone: so says the check ahead of each other.
func (k task) checkNoCores(t *testing.T, a result) {
	t.Helper()
	for i := 0; i+1 < len(a.answers); i += 2 {
		if a.answers[i].Kind == api.Unsat && (a.answers[i+1].Kind != api.Unsat || len(a.answers[i+1].Core) > 0) {
			t.Fatalf("Run of %s: what is asserted clashes alone, but the check %d is answered %v", k, i+1, a.answers[i+1])
		}
	}
}

// Any commands: each answer is right.
func TestAnyCommands(t *testing.T) {
	r := chance()
	count := map[int]int{}
	for range 80 {
		k := anyRows(t, r, "", slices.Concat(simple(), ofNumbers(), ofNumbers()))
		for range 6 {
			k = k.with(anyCmds(r, k.truths(), 4+r.IntN(24))...)
			a := k.run(t, 100000)
			k.checkNoCores(t, a)
			for _, kind := range a.kinds() {
				count[kind]++
			}
		}
	}
	if count[api.Sat] < 700 || count[api.Unsat] < 700 || count[api.Unknown] > 20 {
		t.Fatalf("too few of a kind, or too many: %v", count)
	}
}

// Any commands, where x and y are near numbers: whether what is asserted and assumed can hold is known by trying all of them.
func TestAnyCommandsOfNearNumbers(t *testing.T) {
	r := chance()
	count := map[int]int{}
	for range 150 {
		k := anyRows(t, r, "(<= (- 2) x 2) (<= (- 2) y 2)", simple())
		first := k.cmds[0]
		for range 6 {
			k = k.with(append([]api.Cmd{first}, anyCmds(r, k.truths(), 4+r.IntN(24))...)...)
			a := k.enough(t)
			k.checkNoCores(t, a)
			for i, q := range k.questions() {
				kind := a.answers[i].Kind
				count[kind]++
				if can := k.meet(q.all()) >= 0; can != (kind == api.Sat) {
					t.Fatalf("Run of %s: the check %d is answered %v, but that it can hold is %v", k, i, a.answers[i], can)
				}
				if len(a.answers[i].Core) > 0 && k.meet(q.asserts) < 0 {
					t.Fatalf("Run of %s: the check %d is answered %v, but what is asserted clashes alone", k, i, a.answers[i])
				}
			}
		}
	}
	if count[api.Sat] < 1000 || count[api.Unsat] < 1000 {
		t.Fatalf("too few of a kind: %v", count)
	}
}

// An answer hangs on what is asserted then, and assumed: it is the same where nothing came and went, and the
// kind is that which layer 17 tells of the same terms.
func TestWhatCameAndWent(t *testing.T) {
	r := chance()
	for range 60 {
		k := anyRows(t, r, "", slices.Concat(simple(), ofNumbers()))
		k = k.with(anyCmds(r, k.truths(), 40)...)
		a := k.run(t, api.MaxFuel)
		for i, q := range k.questions() {
			alone := k.with(cmd(api.CmdAssert, q.asserts...), cmd(api.CmdCheck, q.assume...))
			if a.answers[i].Kind == api.Unknown {
				continue
			}
			if b := alone.run(t, api.MaxFuel).answers[0]; !isSameAnswer(a.answers[i], b) {
				t.Fatalf("Run of %s: the check %d is answered %v, but alone, as %s, %v", k, i, a.answers[i], alone, b)
			}
			b, _, e := smt.Solve(k.rows, q.asserts, q.assume, api.MaxFuel)
			if e != api.OK || b.Kind != api.Unknown && b.Kind != a.answers[i].Kind {
				t.Fatalf("Run of %s: the check %d is answered %v, but layer 17 answers %v, error %d", k, i, a.answers[i], b, e)
			}
		}
	}
}

// What is pushed and popped between commands, whatever is done there, changes no other answer.
func TestWhatIsBetween(t *testing.T) {
	r := chance()
	for range 60 {
		k := anyRows(t, r, "", slices.Concat(simple(), ofNumbers()))
		plain := k.with(anyCmds(r, k.truths(), 20)...)
		want := plain.run(t, api.MaxFuel)
		var cmds []api.Cmd
		var got []api.Answer
		var between []bool // by check
		for _, c := range plain.cmds {
			for _, d := range closed(r, k.truths()) {
				cmds = append(cmds, d)
				between = append(between, slices.Repeat([]bool{true}, checks(d))...)
			}
			cmds = append(cmds, c)
			between = append(between, slices.Repeat([]bool{false}, checks(c))...)
		}
		for i, one := range k.with(cmds...).run(t, api.MaxFuel).answers {
			if !between[i] {
				got = append(got, one)
			}
		}
		if !slices.EqualFunc(got, want.answers, isSameAnswer) {
			t.Fatalf("Run of %s: %v, but without all that is between %v", k.with(cmds...), got, want.answers)
		}
	}
}

// closed are commands behind which all levels are as they were.
func closed(r *rand.Rand, some []int) []api.Cmd {
	out := append([]api.Cmd{cmd(api.CmdPush)}, anyCmds(r, some, r.IntN(6))...)
	depth := 0
	for _, c := range out {
		switch c.Kind {
		case api.CmdPush:
			depth++
		case api.CmdPop:
			depth--
		}
	}
	return append(out, slices.Repeat([]api.Cmd{cmd(api.CmdPop)}, depth)...)
}

func checks(c api.Cmd) int {
	if c.Kind == api.CmdCheck {
		return 1
	}
	return 0
}

// The same call is answered alike again, whatever was asked between.
func TestAskedAgain(t *testing.T) {
	r := chance()
	for range 30 {
		k := anyRows(t, r, "", slices.Concat(simple(), ofNumbers()))
		k = k.with(anyCmds(r, k.truths(), 20)...)
		for _, fuel := range []int{7, 100, api.MaxFuel} {
			a := k.run(t, fuel)
			read(t, "assert p", "push", "assert (not p)", "check").run(t, 1000)
			for range 2 {
				if b := k.run(t, fuel); !isSame(a, b) {
					t.Fatalf("Run of %s, fuel %d: first %v, then %v", k, fuel, a, b)
				}
			}
		}
	}
}

// Names mean nothing.
func TestOtherNames(t *testing.T) {
	r := chance()
	for range 30 {
		k := anyRows(t, r, "", slices.Concat(simple(), ofNumbers()))
		k = k.with(anyCmds(r, k.truths(), 20)...)
		other := k.rows
		other.Syms = slices.Clone(other.Syms)
		for n := range other.Syms {
			other.Syms[n].Name = strings.Repeat("s", len(other.Syms)-n)
		}
		if a, b := k.run(t, api.MaxFuel), taskOf(other, k.cmds...).run(t, api.MaxFuel); !slices.Equal(a.kinds(), b.kinds()) {
			t.Fatalf("Run of %s: %v, but with other names %v", k, a, b)
		}
	}
}
