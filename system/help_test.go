package system_test

import (
	"math/big"
	"slices"
	"strconv"
	"strings"
	"testing"

	"elenchus/api"
	"elenchus/system"
)

// The commands of most tests: a state of two numbers and a flag, and symbols and names that are rigid.
const (
	stateSyms = "(declare-fun x () Int)(declare-fun x! () Int)(declare-fun y () Int)(declare-fun y! () Int)(declare-fun b () Bool)(declare-fun b! () Bool)"
	rigidSyms = "(declare-fun k () Int)(declare-fun f (Int) Int)(declare-fun g (Int Int) Bool)"
	names     = "(define-fun dx () Int x)(define-fun db () Bool b)(define-fun seven () Int 7)(define-fun off () Bool (not b))"
	stock     = stateSyms + rigidSyms + names
	pairX     = "(define-fun nx () Int (! x :next x!))"
	pairB     = "(define-fun nb () Bool (! b :next b!))"
	initX     = "(define-fun i () Bool (! (= x 0) :init true))"
	transX    = "(define-fun t () Bool (! (= x! (+ x 1)) :trans true))"
	propX     = "(define-fun p () Bool (! (>= x 0) :invar-property 0))"
	whole     = stock + pairX + pairB + initX + transX + propX
)

// unmark is a text without its mark, and the place at which that stood.
func unmark(t *testing.T, marked string) (string, int) {
	t.Helper()
	text := strings.Replace(marked, "§", "", 1)
	at := strings.Index(marked, "§")
	if at < 0 || strings.Contains(text, "§") {
		t.Fatalf("%q has not just one mark", marked)
	}
	return text, at
}

// isNothing asks whether a system has its zero value.
func isNothing(s api.System) bool {
	return len(s.Terms.Syms)+len(s.Terms.Terms)+len(s.Now)+len(s.Next)+len(s.Lemmas) == 0 && s.Init == 0 && s.Trans == 0 && s.Prop == 0
}

// refused fails unless a text is refused with an error at a place.
func refused(t *testing.T, text string, at int, want api.Errno) {
	t.Helper()
	s, place, err := system.Read(text)
	if err != want || place != at {
		t.Fatalf("Read of %.300q: error %d at %d, but it is error %d at %d", text, err, place, want, at)
	}
	if !isNothing(s) {
		t.Fatalf("Read of %.300q: beside an error there is %v", text, s)
	}
}

// marked fails unless a text is refused with an error at its mark.
func marked(t *testing.T, text string, want api.Errno) {
	t.Helper()
	text, at := unmark(t, text)
	refused(t, text, at, want)
}

// wrong fails unless a text has an error at its mark, whatever comes behind it; the commands of stock are ahead of it.
func wrong(t *testing.T, text string, want api.Errno) {
	t.Helper()
	for _, behind := range []string{"", " (nosuch)", " 7", pairX + pairB + initX + transX + propX, "(declare-fun x () Int)"} {
		marked(t, stock+text+behind, want)
	}
}

// wrongAtEnd fails unless a text has an error at its end, blanks and comments counted.
func wrongAtEnd(t *testing.T, text string, want api.Errno) {
	t.Helper()
	for _, behind := range []string{"", " ", "\n ; the end", "(set-info)"} {
		refused(t, text+behind, len(text+behind), want)
	}
}

// right fails unless a text is read.
func right(t *testing.T, text string) api.System {
	t.Helper()
	s, at, err := system.Read(text)
	if err != api.OK || at != 0 {
		t.Fatalf("Read of %.3000q: error %d at %d", text, err, at)
	}
	if err := system.Check(s); err != api.OK {
		t.Fatalf("Read of %.3000q: a system that may not be, error %d: %v", text, err, s)
	}
	return s
}

// reads fails unless a text is read as the system that is shown so.
func reads(t *testing.T, text, want string) {
	t.Helper()
	if got := show(right(t, text)); got != want {
		t.Fatalf("Read of %q:\n%s\nbut it is\n%s", text, got, want)
	}
}

// fits fails unless commands may stand behind those of a whole system.
func fits(t *testing.T, text string) api.System {
	t.Helper()
	return right(t, whole+text)
}

// meant is the number that an api.Int stands for.
func meant(a api.Int) *big.Int {
	v := new(big.Int)
	for _, w := range slices.Backward(a.Abs) {
		v.Add(v.Lsh(v, 64), new(big.Int).SetUint64(w))
	}
	if a.Neg {
		v.Neg(v)
	}
	return v
}

// opNames are Ops as they are shown.
var opNames = map[int]string{
	1: "true", 2: "false", 5: "not", 6: "and", 7: "or", 8: "iff", 9: "ite", 10: "eq", 11: "le", 12: "add", 13: "mul",
}

func showTerm(syms []api.Sym, what api.Term) string {
	var out []string
	switch what.Op {
	case api.OpNum:
		out = append(out, meant(what.Num).String())
	case api.OpApp:
		out = append(out, syms[what.Sym].Name)
	case api.OpMul:
		out = append(out, opNames[what.Op], meant(what.Num).String())
	default:
		out = append(out, opNames[what.Op])
	}
	for _, part := range what.Args {
		out = append(out, strconv.Itoa(part))
	}
	return strings.Join(out, " ")
}

func showSym(s api.Sym) string {
	return s.Name + strings.Repeat(" Int", s.Arity) + " " + map[int]string{api.Bool: "Bool", api.Whole: "Int"}[s.Sort]
}

func showNumbers(numbers []int) string {
	var out []string
	for _, n := range numbers {
		out = append(out, strconv.Itoa(n))
	}
	return strings.Join(out, " ")
}

// show writes a system: its symbols, its terms, Now and Next, Init, Trans and Prop, and the Lemmas.
func show(s api.System) string {
	var syms, terms []string
	for _, sym := range s.Terms.Syms {
		syms = append(syms, showSym(sym))
	}
	for _, what := range s.Terms.Terms {
		terms = append(terms, showTerm(s.Terms.Syms, what))
	}
	return strings.Join([]string{
		strings.Join(syms, ", "), strings.Join(terms, ", "), showNumbers(s.Now) + " > " + showNumbers(s.Next),
		showNumbers([]int{s.Init, s.Trans, s.Prop}), showNumbers(s.Lemmas),
	}, "; ")
}

func named(name string, arity, sort int) api.Sym {
	return api.Sym{Name: name, Arity: arity, Sort: sort}
}
