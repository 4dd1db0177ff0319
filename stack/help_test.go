package stack_test

import (
	"math/rand/v2"
	"slices"
	"strconv"
	"strings"
	"testing"

	"elenchus/api"
	"elenchus/front"
	"elenchus/stack"
	"elenchus/value"
)

// chance is the same in each run.
func chance() *rand.Rand {
	return rand.New(rand.NewPCG(18, 48))
}

func anyOf[T any](r *rand.Rand, l ...T) T {
	return l[r.IntN(len(l))]
}

func small(v int) api.Int {
	switch {
	case v < 0:
		return api.Int{Neg: true, Abs: api.Nat{uint64(-v)}}
	case v > 0:
		return api.Int{Abs: api.Nat{uint64(v)}}
	}
	return api.Int{}
}

func isSameInt(a, b api.Int) bool {
	return a.Neg == b.Neg && slices.Equal(a.Abs, b.Abs)
}

// The symbols of all texts, by their numbers.
const (
	symX = iota
	symY
	symP
	symQ
	symF
	symB
)

func symbols() []api.Sym {
	return []api.Sym{
		{Name: "x", Sort: api.Whole}, {Name: "y", Sort: api.Whole}, {Name: "p", Sort: api.Bool}, {Name: "q", Sort: api.Bool},
		{Name: "f", Arity: 1, Sort: api.Whole}, {Name: "b", Arity: 1, Sort: api.Bool},
	}
}

// task is what Run is asked, but for the fuel.
type task struct {
	*tried
	cmds []api.Cmd
}

func taskOf(r api.Terms, cmds ...api.Cmd) task {
	return task{&tried{rows: r}, cmds}
}

// with is the task of other commands over the same rows.
func (k task) with(cmds ...api.Cmd) task {
	return task{k.tried, cmds}
}

func cmd(kind int, terms ...int) api.Cmd {
	return api.Cmd{Kind: kind, Terms: terms}
}

// read is a task of commands, each a word, and conditions in the dialect of layer 7.
func read(t *testing.T, lines ...string) task {
	t.Helper()
	kinds := map[string]int{"push": api.CmdPush, "pop": api.CmdPop, "assert": api.CmdAssert, "check": api.CmdCheck}
	var cmds []api.Cmd
	all := ""
	for _, line := range lines {
		word, text, _ := strings.Cut(line, " ")
		before := len(roots(t, all))
		all += " " + text
		cmds = append(cmds, cmd(kinds[word], roots(t, all)[before:]...))
	}
	r, _, _, _ := front.Read(symbols(), all)
	return taskOf(r, cmds...)
}

// roots are the terms of a text's conditions.
func roots(t *testing.T, text string) []int {
	t.Helper()
	_, l, at, e := front.Read(symbols(), text)
	if e != api.OK {
		t.Fatalf("%q: error %d at %d", text, e, at)
	}
	return l
}

// question is a check: what is asserted then, and what is assumed.
type question struct{ asserts, assume []int }

func (q question) all() []int {
	return slices.Concat(q.asserts, q.assume)
}

// questions are all checks. What is asserted is told by going back from a check, past all levels that went.
func (k task) questions() []question {
	var out []question
	for i, c := range k.cmds {
		if c.Kind != api.CmdCheck {
			continue
		}
		q := question{assume: c.Terms}
		gone := 0
		for _, ahead := range slices.Backward(k.cmds[:i]) {
			switch {
			case ahead.Kind == api.CmdPop:
				gone++
			case ahead.Kind == api.CmdPush && gone > 0:
				gone--
			case ahead.Kind == api.CmdAssert && gone == 0:
				q.asserts = append(q.asserts, ahead.Terms...)
			}
		}
		out = append(out, q)
	}
	return out
}

// result is what Run answers, beside its error.
type result struct {
	answers []api.Answer
	used    int
}

func (a result) kinds() []int {
	var out []int
	for _, one := range a.answers {
		out = append(out, one.Kind)
	}
	return out
}

func isSameTable(a, b api.Table) bool {
	isSameRow := func(x, y api.Row) bool {
		return slices.EqualFunc(x.Args, y.Args, isSameInt) && isSameInt(x.Val, y.Val)
	}
	return slices.EqualFunc(a.Rows, b.Rows, isSameRow) && isSameInt(a.Else, b.Else)
}

func isSameAnswer(a, b api.Answer) bool {
	return a.Kind == b.Kind && slices.Equal(a.Core, b.Core) && slices.EqualFunc(a.Model.Tables, b.Model.Tables, isSameTable)
}

func isSame(a, b result) bool {
	return a.used == b.used && slices.EqualFunc(a.answers, b.answers, isSameAnswer)
}

// run is Run's answer, held against all that is promised of it: one answer for each check, and each right.
func (k task) run(t *testing.T, fuel int) result {
	t.Helper()
	answers, used, e := stack.Run(k.rows, k.cmds, fuel)
	if e != api.OK || used < 0 || used > fuel {
		t.Fatalf("Run of %s, fuel %d: error %d, %d was used", k, fuel, e, used)
	}
	questions := k.questions()
	if len(answers) != len(questions) {
		t.Fatalf("Run of %s, fuel %d: %d answers of %d checks", k, fuel, len(answers), len(questions))
	}
	for i, q := range questions {
		if wrong := k.wrong(q, answers[i]); wrong != "" {
			t.Fatalf("Run of %s, fuel %d: the check %d is answered %v, but %s", k, fuel, i, answers[i], wrong)
		}
	}
	return result{answers, used}
}

// wrong is what is wrong with an answer, if something is.
func (k task) wrong(q question, a api.Answer) string {
	switch {
	case a.Kind == api.Sat && len(a.Core) == 0 && len(a.Model.Tables) == len(k.rows.Syms):
		for _, n := range q.all() {
			if holds, e := value.Holds(k.rows, a.Model, n); e != api.OK || !holds {
				return "the term " + strconv.Itoa(n) + " doesn't hold"
			}
		}
		return ""
	case a.Kind == api.Unsat && len(a.Model.Tables) == 0:
		return k.wrongCore(q, a.Core)
	case a.Kind == api.Unknown && len(a.Core)+len(a.Model.Tables) == 0:
		return ""
	}
	return "no answer is so"
}

func (k task) wrongCore(q question, core []int) string {
	last := -1
	for _, n := range core {
		place := slices.Index(q.assume, n)
		if place <= last {
			return "its Core isn't of the assumed terms " + text(q.assume) + ", in the order in which they stand first"
		}
		last = place
	}
	if k.meet(slices.Concat(q.asserts, core)) >= 0 {
		return "what is asserted holds with the Core by a model"
	}
	return ""
}

// enough is Run's answer, with as much fuel as there may be; no check is Unknown.
func (k task) enough(t *testing.T) result {
	t.Helper()
	a := k.run(t, api.MaxFuel)
	if slices.Contains(a.kinds(), api.Unknown) {
		t.Fatalf("Run of %s: Unknown is told, %d was used", k, a.used)
	}
	return a
}

// tell fails unless the checks of commands are answered so: "sat", "unsat" and the places of the Core's terms.
func tell(t *testing.T, want string, lines ...string) {
	t.Helper()
	k := read(t, lines...)
	k.tell(t, want, api.MaxFuel)
}

func (k task) tell(t *testing.T, want string, fuel int) {
	t.Helper()
	a := k.run(t, fuel)
	var got []string
	for i, q := range k.questions() {
		words := []string{[]string{"unknown", "sat", "unsat"}[a.answers[i].Kind]}
		for _, n := range a.answers[i].Core {
			words = append(words, strconv.Itoa(slices.Index(q.assume, n)))
		}
		got = append(got, strings.Join(words, " "))
	}
	if told := strings.Join(got, ", "); told != want {
		t.Fatalf("Run of %s, fuel %d: %s, but it is %s", k, fuel, told, want)
	}
}

func text(l []int) string {
	var out []string
	for _, n := range l {
		out = append(out, strconv.Itoa(n))
	}
	return "[" + strings.Join(out, " ") + "]"
}

// String is a task as a text: its terms by their Ops, and its commands, unless they are very many.
func (k task) String() string {
	var out strings.Builder
	for n, term := range k.rows.Terms[:min(len(k.rows.Terms), 100)] {
		out.WriteString(strconv.Itoa(n) + ": op " + strconv.Itoa(term.Op) + " sym " + strconv.Itoa(term.Sym) + " " + text(term.Args) + " | ")
	}
	for _, c := range k.cmds[:min(len(k.cmds), 100)] {
		out.WriteString(" " + strconv.Itoa(c.Kind) + text(c.Terms[:min(len(c.Terms), 100)]))
	}
	return out.String()
}
