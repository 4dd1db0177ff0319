package stack_test

import (
	"slices"
	"strconv"
	"strings"
	"testing"

	"elenchus/api"
	"elenchus/stack"
)

// The chapter's example, with the fuel of P7.
func TestExample(t *testing.T) {
	read(t, "push", "assert false", "check", "pop", "check").tell(t, "unsat, sat", 100)
}

// P7: false alone, and nothing, with such fuel.
func TestEnoughFuel(t *testing.T) {
	no := taskOf(api.Terms{Terms: []api.Term{{Op: api.OpFalse}}})
	for _, c := range []struct {
		task task
		want string
	}{
		{no.with(cmd(api.CmdAssert, 0), cmd(api.CmdCheck)), "unsat"}, {no.with(cmd(api.CmdCheck, 0)), "unsat 0"}, {no.with(cmd(api.CmdAssert, 0), cmd(api.CmdCheck, 0)), "unsat"}, {no.with(cmd(api.CmdCheck)), "sat"},
		{taskOf(api.Terms{}, cmd(api.CmdCheck)), "sat"}, {taskOf(api.Terms{Syms: symbols()}, cmd(api.CmdCheck)), "sat"}, {read(t, "check"), "sat"}, {read(t, "assert", "check"), "sat"},
		{read(t, "push", "push", "assert false", "check", "pop", "check", "check false", "pop", "check"), "unsat, sat, unsat 0, sat"},
	} {
		c.task.tell(t, c.want, 100)
	}
}

// Commands that ask for nothing are answered by nothing.
func TestNoChecks(t *testing.T) {
	for _, k := range []task{{tried: &tried{}}, taskOf(api.Terms{}, []api.Cmd{}...), read(t), read(t, "push"), read(t, "assert"), read(t, "assert p false"), read(t, "push", "assert p", "pop"), read(t, "push", "push", "pop", "push")} {
		for _, fuel := range []int{0, 1, 100, api.MaxFuel} {
			if a := k.run(t, fuel); len(a.answers) != 0 || a.used != 0 {
				t.Errorf("Run of %s, fuel %d: %v", k, fuel, a)
			}
		}
	}
}

// Lists without terms, be they nil or empty, assert and assume nothing.
func TestEmptyLists(t *testing.T) {
	k := read(t, "assert p", "check (not p)")
	for _, none := range [][]int{nil, {}} {
		empty := func(kind int) api.Cmd { return api.Cmd{Kind: kind, Terms: none} }
		k.with(empty(api.CmdPush), k.cmds[0], empty(api.CmdAssert), empty(api.CmdCheck), k.cmds[1], empty(api.CmdPop), empty(api.CmdCheck), k.cmds[1]).tell(t, "sat, unsat 0, sat, sat", 100)
	}
}

// A check asks for what is asserted, and for what it assumes itself; this is gone with it.
func TestChecks(t *testing.T) {
	tell(t, "sat, sat, unsat 0 1, sat, unsat 0", "check", "check p", "check p (not p)", "check (not p)", "check false")
	tell(t, "unsat 0, sat, sat, unsat 1, unsat 0, sat", "assert p", "check (not p)", "check p", "check q", "check q (not p)", "check (not p) q", "check")
	tell(t, "sat, unsat, unsat, unsat", "assert p (< x y)", "check", "assert (not p)", "check", "check p", "check (not p) q false")
	tell(t, "sat, unsat 0, unsat 0 2, sat", "assert (<= x 3)", "check (= x 2)", "check (>= x 5)", "check (>= x 3) p (= x 2)", "check (>= x 3) p")
	tell(t, "unsat 0 1, unsat 1, unsat 2 4", "assert (= x y)", "check (= (f x) 1) (= (f y) 2)", "check (b x) (< x y) (not (b y))", "check p (b 3) (b x) q (not (b y))")
}

// What was asserted in a level goes with it; what was asserted in a lower one stays.
func TestLevels(t *testing.T) {
	tell(t, "unsat, sat, unsat 0 1, unsat 1", "assert (<= x 3)", "push", "assert (>= x 5)", "check", "pop", "check (= x 2)", "check (= x 2) (>= x 5)", "check p (>= x 5)")
	tell(t, "unsat 0, unsat 0, unsat 0, sat, unsat 0, sat", "assert p", "push", "check (not p)", "push", "assert q", "check (not q)", "check (not p)", "pop", "check (not q)", "check (not p)", "pop", "check (not q)")
	tell(t, "sat, unsat, sat, unsat, unsat, sat", "push", "assert p", "check", "push", "assert (not p)", "check", "pop", "check", "push", "assert (not p)", "push", "check", "pop", "check", "pop", "check")
	tell(t, "unsat, sat, sat", "push", "assert p", "push", "assert (not p)", "check", "pop", "check p", "pop", "check (not p)")
	// What is asserted behind a pop is asserted in the level below.
	tell(t, "unsat 0, unsat 0, unsat 0, sat", "push", "push", "assert q", "pop", "assert p", "check (not p)", "push", "check (not p)", "pop", "check (not p)", "check (not q)")
	tell(t, "unsat 0, unsat 0, sat", "push", "pop", "assert p", "push", "check (not p)", "pop", "check (not p)", "check q")
	// Levels in which nothing is asserted are levels, too.
	tell(t, "unsat 0, unsat 0, sat", "push", "assert p", "push", "push", "pop", "check (not p)", "pop", "check (not p)", "pop", "check (not p)")
	tell(t, "unsat 0, sat", "push", "assert p", "push", "assert", "pop", "check (not p)", "pop", "check (not p)")
}

// A term that is asserted twice stays as long as the lowest level in which it was.
func TestAssertedTwice(t *testing.T) {
	tell(t, "unsat 0, sat", "push", "assert p p", "assert p", "check (not p)", "pop", "check (not p)")
	tell(t, "unsat 0, unsat 0", "assert p", "push", "assert p", "check (not p)", "pop", "check (not p)")
	tell(t, "unsat 0, unsat 0, sat", "push", "assert p", "push", "assert q p p", "check (not p)", "pop", "check (not p)", "pop", "check (not p)")
	tell(t, "unsat 0, unsat 0, unsat 0, sat", "push", "assert p", "push", "push", "assert p", "check (not p)", "pop", "check (not p)", "pop", "check (not p)", "pop", "check (not p)")
	tell(t, "sat, unsat 0, unsat 0, sat", "push", "assert p", "pop", "check (not p)", "push", "assert p", "check (not p)", "push", "assert p", "pop", "check (not p)", "pop", "check (not p)")
	tell(t, "unsat 0, unsat 0, sat", "push", "push", "assert p", "pop", "assert p", "check (not p)", "push", "assert p", "pop", "check (not p)", "pop", "check (not p)")
	// One that is asserted and assumed is no part of a clash.
	tell(t, "sat, unsat 1, unsat", "assert p", "check p p", "check p (not p)", "assert (not p)", "check (not p) p")
}

func TestTermsAndTheirNot(t *testing.T) {
	for _, c := range []string{"p", "(b x)", "(< x y)", "(= (f x) y)", "(or p (= x 1))"} {
		not := "(not " + c + ")"
		tell(t, "sat, unsat, sat, unsat, sat, unsat 0 1", "push", "assert "+c, "check", "push", "assert "+not, "check", "pop", "pop", "push", "assert "+not, "check", "assert "+c, "check", "pop", "check", "check "+c+" "+not)
		tell(t, "unsat 0, sat, unsat 1, sat", "assert "+c, "check "+not, "check "+c, "check "+c+" "+not+" "+c, "check "+c+" "+c)
		tell(t, "unsat, unsat", "assert "+c+" "+not, "check", "push", "check "+not)
	}
}

// The same check is answered alike ahead of a push and behind its pop, whatever came between.
func TestCheckedAgain(t *testing.T) {
	for _, between := range [][]string{nil, {"assert q"}, {"assert (not p)", "check"}, {"assert false", "check p"}, {"assert (= y 9) (b 9)", "check", "push", "assert (> x 3)", "pop"}, {"check (not p)", "check"}, {"push", "assert p", "pop", "assert (< x y) (< y x)"}} {
		for _, assume := range []string{"", "p", "(not p)", "(< x y)", "(= (f x) 3) (= (f y) 4)", "q (= x y) (not (b x)) (b y)", "(< x 0) p (= x 1) q"} {
			lines := slices.Concat([]string{"assert (or p q) (<= 1 x 7)", "push", "assert (or p (< y x))", "check " + assume, "push"}, between, []string{"pop", "check " + assume})
			answers := read(t, lines...).enough(t).answers
			if last := answers[len(answers)-1]; !isSameAnswer(answers[0], last) {
				t.Fatalf("%q: first %v, then %v", lines, answers[0], last)
			}
		}
	}
}

// What is asserted level by level, one by one or at once, in whatever order, is asserted alike.
func TestLevelByLevel(t *testing.T) {
	conditions := []string{"(or p q)", "(=> p (< x y))", "(= (f x) 1)", "(=> q (= x y))", "(= (f y) 2)"}
	for _, assume := range []string{"", "p", "q", "(not p)", "(< y x)", "(not (< x y)) (b x)", "(= x 3) (= y 4) (b x)"} {
		backward := slices.Clone(conditions)
		slices.Reverse(backward)
		var each, levels, twice []string
		for _, c := range conditions {
			each = append(each, "assert "+c)
			levels = append(levels, "push", "assert "+c)
			twice = append(twice, "push", "assert "+c+" "+strings.Join(conditions, " "))
		}
		all := strings.Join(conditions, " ")
		kinds := map[int]int{}
		for _, lines := range [][]string{{"assert " + all}, {"push", "assert " + all}, each, levels, twice, {"assert " + strings.Join(backward, " ")}, append([]string{"push", "assert false", "pop"}, levels...)} {
			k := read(t, append(lines, "check "+assume)...)
			kinds[k.enough(t).answers[0].Kind]++
		}
		if len(kinds) != 1 {
			t.Fatalf("%q, assumed %q: %v", conditions, assume, kinds)
		}
	}
}

// Many levels, each with its bound of x, of which more and more go.
func TestManyLevels(t *testing.T) {
	const count = 60
	var lines, want []string
	for n := range count {
		lines = append(lines, "push", "assert (>= x "+strconv.Itoa(n)+")")
	}
	for n := count - 1; n >= 0; n-- {
		lines = append(lines, "check (< x "+strconv.Itoa(n)+")", "check (= x "+strconv.Itoa(n)+")", "pop")
		want = append(want, "unsat 0", "sat")
	}
	lines = append(lines, "check (< x 0)")
	tell(t, strings.Join(append(want, "sat"), ", "), lines...)
}

// Pushes that are never popped, and pops of each of them; one more is too many.
func TestManyPushes(t *testing.T) {
	k := read(t, "assert p", "check (not p)", "assert q", "check (not q)")
	for _, count := range []int{1, 2, 100, 1 << 18} {
		pushes, pops := slices.Repeat([]api.Cmd{cmd(api.CmdPush)}, count), slices.Repeat([]api.Cmd{cmd(api.CmdPop)}, count)
		open := slices.Concat(k.cmds[:1], pushes, k.cmds[2:3], k.cmds[1:2], k.cmds[3:])
		k.with(open...).tell(t, "unsat 0, unsat 0", 100)
		closed := slices.Concat(open, pops, k.cmds[1:2], k.cmds[3:])
		k.with(closed...).tell(t, "unsat 0, unsat 0, unsat 0, sat", 100)
		k.with(append(closed, cmd(api.CmdPop))...).refused(t, 100, api.ErrCount)
		levels := slices.Repeat([]api.Cmd{cmd(api.CmdPush), k.cmds[2]}, count)
		k.with(slices.Concat(levels, pops[1:], k.cmds[3:], pops[:1], k.cmds[3:])...).tell(t, "unsat 0, sat", 100)
	}
}

// Many commands, and long lists of the same terms.
func TestManyCommands(t *testing.T) {
	k := read(t, "push", "assert p (= x 3)", "check (b x) (not (b 3)) q", "pop", "check (not p)")
	want := strings.TrimSuffix(strings.Repeat("unsat 0 1, sat, ", 1000), ", ")
	k.with(slices.Repeat(k.cmds, 1000)...).tell(t, want, api.MaxFuel)
	long := slices.Clone(k.cmds)
	for i, c := range long {
		long[i].Terms = slices.Repeat(c.Terms, 20000)
	}
	k.with(long...).tell(t, "unsat 0 1, sat", api.MaxFuel)
	asserts := slices.Repeat([]api.Cmd{cmd(api.CmdPush), long[1]}, 20)
	k.with(slices.Concat(asserts, slices.Repeat(k.cmds[2:3], 3), asserts)...).tell(t, "unsat 0 1, unsat 0 1, unsat 0 1", api.MaxFuel)
}

// Each symbol has a table, those that stand in no term, too.
func TestModels(t *testing.T) {
	for _, lines := range [][]string{{"check"}, {"assert p", "check"}, {"assert (= x 3)", "push", "assert (= (f x) 4)", "check (b y)", "pop", "check (= (f 3) 5)"}} {
		for _, a := range read(t, lines...).enough(t).answers {
			if a.Kind != api.Sat || len(a.Model.Tables) != len(symbols()) {
				t.Errorf("%q: %v", lines, a)
			}
		}
	}
}

// A check that isn't known, as a search among whole numbers goes too deep, keeps no other one from being answered.
func TestTooDeep(t *testing.T) {
	k := read(t, "assert p", "push", "assert (= x (* 2 y)) (= x (+ (* 2 (f 0)) 1))", "check", "check (not p)", "pop", "check", "check (not p)", "push", "assert (= x (* 2 y))", "check (= x 4)")
	a := k.run(t, api.MaxFuel)
	if a.answers[0].Kind == api.Sat || a.answers[1].Kind == api.Sat || !slices.Equal(a.kinds()[2:], []int{api.Sat, api.Unsat, api.Sat}) {
		t.Fatalf("Run of %s: %v", k, a)
	}
}

// Rows with as many terms as there may be.
func TestFullRows(t *testing.T) {
	r := api.Terms{Syms: symbols(), Terms: []api.Term{{Op: api.OpApp, Sym: symP}, {Op: api.OpApp, Sym: symQ}, {Op: api.OpApp, Sym: symX}}}
	for n := len(r.Terms); n < api.MaxTerms; n++ {
		r.Terms = append(r.Terms, api.Term{Op: api.OpNot, Args: []int{n - 3}})
		if n%3 == 2 {
			r.Terms[n] = api.Term{Op: api.OpNum, Num: small(n)}
		}
	}
	last := api.MaxTerms - 1 // p, with as many OpNots as it is more than 0, by threes
	cmds := []api.Cmd{cmd(api.CmdPush), cmd(api.CmdAssert, last), cmd(api.CmdCheck, 0), cmd(api.CmdCheck, 3), cmd(api.CmdPop), cmd(api.CmdCheck, 0), cmd(api.CmdCheck, 3)}
	answers, _, e := stack.Run(r, cmds, api.MaxFuel)
	if e != api.OK || len(answers) != 4 {
		t.Fatalf("error %d, %v", e, answers)
	}
	for i, want := range []int{api.Unsat, api.Sat, api.Sat, api.Sat} {
		if answers[i].Kind != want {
			t.Errorf("check %d: %d, not %d", i, answers[i].Kind, want)
		}
	}
}
