package system_test

import (
	"math/rand/v2"
	"slices"
	"strconv"
	"strings"
	"testing"

	"elenchus/api"
	"elenchus/sexp"
	"elenchus/system"
)

// chance is the same in each run.
func chance() *rand.Rand {
	return rand.New(rand.NewPCG(8, 24))
}

func anyOf[T any](r *rand.Rand, items ...T) T {
	return items[r.IntN(len(items))]
}

// writer writes texts of systems.
type writer struct {
	r        *rand.Rand
	commands []string
	of       [3][]string // expressions of one state without parts, by their sorts
	next     [3][]string // those of the next one
	lists    [3][]string // expressions of one number, to be put where the "?" is
	names    int
}

func sortName(sort int) string {
	return []string{"", "Bool", "Int"}[sort]
}

// name is a new one.
func (w *writer) name() string {
	w.names++
	return anyOf(w.r, "a", "b", "and", ".", "!", "x", "Int") + anyOf(w.r, "", "_", "!") + strconv.Itoa(w.names)
}

func (w *writer) say(command string) {
	w.commands = append(w.commands, command)
}

// declares says that there is a symbol, and what is its name.
func (w *writer) declares(arity, sort int) string {
	name := w.name()
	w.say("(declare-fun " + name + " (" + strings.TrimSpace(strings.Repeat("Int ", arity)) + ") " + sortName(sort) + ")")
	return name
}

func (w *writer) defines(sort int, body, note string) string {
	name := w.name()
	if note != "" {
		body = "(! " + body + " " + note + ")"
	}
	w.say("(define-fun " + name + " () " + sortName(sort) + " " + body + ")")
	return name
}

// expr is an expression of a sort, of the next state, too, if steps is true.
func (w *writer) expr(sort, deep int, steps bool) string {
	leaves := w.of[sort]
	if steps {
		leaves = append(slices.Clone(leaves), w.next[sort]...)
	}
	switch n := w.r.IntN(10); {
	case n == 0 && len(w.lists[sort]) > 0:
		return strings.Replace(anyOf(w.r, w.lists[sort]...), "?", w.expr(api.Whole, deep-1, steps), 1)
	case n < 3 || deep <= 0:
		return anyOf(w.r, append(leaves, map[int]string{api.Bool: "true", api.Whole: strconv.Itoa(w.r.IntN(5))}[sort])...)
	case n == 3:
		return "(ite " + w.expr(api.Bool, deep-1, steps) + " " + w.expr(sort, deep-1, steps) + " " + w.expr(sort, deep-1, steps) + ")"
	case n == 4:
		return "(let ((l " + w.expr(sort, deep-1, steps) + ")) l)"
	case sort == api.Whole:
		return "(" + anyOf(w.r, "+", "-") + " " + w.expr(sort, deep-1, steps) + " " + w.expr(sort, deep-1, steps) + ")"
	case n < 7:
		return "(" + anyOf(w.r, "and", "or", "=>", "=") + " " + w.expr(sort, deep-1, steps) + " " + w.expr(sort, deep-1, steps) + ")"
	case n == 7:
		return "(not " + w.expr(sort, deep-1, steps) + ")"
	}
	return "(" + anyOf(w.r, "<", "<=", "=", ">", "distinct") + " " + w.expr(api.Whole, deep-1, steps) + " " + w.expr(api.Whole, deep-1, steps) + ")"
}

// symbols says which symbols there are, and pairs of them.
func (w *writer) symbols() {
	for range w.r.IntN(4) {
		sort := 1 + w.r.IntN(2)
		now, next := w.declares(0, sort), w.declares(0, sort)
		if w.r.IntN(2) == 0 {
			w.of[sort] = append(w.of[sort], w.defines(sort, now, ""))
		}
		w.defines(sort, anyOf(w.r, now, now, "("+now+")", "(let ((l "+now+")) l)"), ":next "+next)
		w.of[sort], w.next[sort] = append(w.of[sort], now), append(w.next[sort], next)
	}
	for range w.r.IntN(3) {
		sort, arity := 1+w.r.IntN(2), w.r.IntN(5)
		name := w.declares(arity, sort)
		if arity == 0 {
			w.of[sort] = append(w.of[sort], name)
			continue
		}
		w.lists[sort] = append(w.lists[sort], "("+name+" ?"+strings.Repeat(" 1", arity-1)+")")
	}
}

// text is a system's.
func (w *writer) text() string {
	w.say(anyOf(w.r, "", "(set-logic LIA)", "(set-info :a |b|)", "; none\n"))
	w.symbols()
	told := []string{":init true", ":trans true", ":invar-property " + strconv.Itoa(w.r.IntN(20))}
	for range w.r.IntN(4) {
		told = append(told, anyOf(w.r, "", ":lemma true"))
	}
	w.r.Shuffle(len(told), func(i, j int) { told[i], told[j] = told[j], told[i] })
	for _, note := range told {
		sort := api.Bool
		if note == "" {
			sort = 1 + w.r.IntN(2)
		}
		steps := note == ":trans true"
		name := w.defines(sort, w.expr(sort, w.r.IntN(4), steps), note)
		if !steps {
			w.of[sort] = append(w.of[sort], name)
		}
	}
	return strings.Join(w.commands, anyOf(w.r, "", " ", "\n"))
}

func anyText(r *rand.Rand) string {
	w := &writer{r: r}
	return w.text()
}

// agrees fails unless Read answers as the other way does, and what is read may be; it tells the error.
func agrees(t *testing.T, text string) api.Errno {
	t.Helper()
	want, at, err := newOther().read(text)
	if err != api.OK {
		refused(t, text, at, err)
		return err
	}
	reads(t, text, show(want))
	return api.OK
}

func TestReadOfAnyTexts(t *testing.T) {
	r := chance()
	for range 1500 {
		if text := anyText(r); agrees(t, text) != api.OK {
			t.Fatalf("%q is no system", text)
		}
	}
}

// places are all lists of parts within expressions, these among them.
func places(l []api.Expr) [][]api.Expr {
	out := [][]api.Expr{l}
	for _, e := range l {
		if e.Kind == api.List {
			out = append(out, places(e.Parts)...)
		}
	}
	return out
}

// copied is an expression that may be put into one that it is a part of.
func copied(e api.Expr) api.Expr {
	var parts []api.Expr
	for _, part := range e.Parts {
		parts = append(parts, copied(part))
	}
	e.Parts = parts
	return e
}

// strange are expressions that are put in where others should stand.
func strange() []string {
	return []string{
		"()", "0", ":next", ":init", ":lemma", "true", "false", "Int", "Bool", "Real", "!", "(! true :init true)", "(! true :lemma true)", "(Int)", "(Int Int Int Int Int)", "||",
		"(declare-fun q () Bool)", "(define-fun q () Bool true)", "(define-fun q () Int (! 1 :next q))", "(set-info)", "define-fun", "x", "nosuch", ":trans", ":invar-property",
	}
}

// spoil changes a text's expressions somewhere: one is let go, doubled, or takes another's place.
func spoil(r *rand.Rand, list []api.Expr) []api.Expr {
	all := slices.DeleteFunc(places(list), func(l []api.Expr) bool { return len(l) == 0 })
	if len(all) == 0 {
		return list
	}
	// Commands, and their own parts, are changed as often as what is deeper.
	parts := all[min(r.IntN(len(all)), r.IntN(len(all)))]
	if r.IntN(4) == 0 {
		parts = list
	}
	i, other := r.IntN(len(parts)), copied(anyOf(r, anyOf(r, all...)...))
	switch r.IntN(5) {
	case 0:
		parts[i] = other
	case 1:
		parts[i] = pattern(anyOf(r, strange()...))
	case 2:
		j := r.IntN(len(parts))
		parts[i], parts[j] = parts[j], parts[i]
	case 3:
		parts[i].Parts = append(slices.Clone(parts[i].Parts), other)
		parts[i].Kind, parts[i].Text = api.List, ""
	case 4:
		return slices.Delete(list, i%len(list), i%len(list)+1)
	}
	return list
}

// printed is a text of expressions.
func printed(t *testing.T, list []api.Expr) string {
	t.Helper()
	var out []string
	for _, e := range list {
		text, err := sexp.Print(e)
		if err != api.OK {
			t.Fatalf("%v can't be printed: error %d", e, err)
		}
		out = append(out, text)
	}
	return strings.Join(out, "\n")
}

// Texts that are spoilt are refused as the other way refuses them, and what is read of them all the same may be.
func TestReadOfSpoiltTexts(t *testing.T) {
	r := chance()
	seen := map[api.Errno]int{}
	for range 8000 {
		list, _, err := sexp.Read(anyText(r))
		if err != api.OK {
			t.Fatalf("error %d", err)
		}
		for range 1 + r.IntN(2) {
			list = spoil(r, list)
		}
		seen[agrees(t, printed(t, list))]++
	}
	for _, err := range []api.Errno{api.OK, api.ErrForm, api.ErrName, api.ErrSort, api.ErrCount, api.ErrMiss} {
		if seen[err] < 20 {
			t.Errorf("error %d was seen %d times only", err, seen[err])
		}
	}
}

// Bytes that are let go, doubled or changed anywhere.
func TestReadOfSpoiltBytes(t *testing.T) {
	r := chance()
	for range 4000 {
		text := anyText(r)
		at := r.IntN(len(text))
		agrees(t, text[:at]+anyOf(r, "", text[at:at+1]+text[at:], "("+text[at+1:], ")"+text[at+1:], " "+text[at+1:], "|"+text[at:], text[at+1:], "x"+text[at+1:], "!"+text[at:], "\\"+text[at:]))
	}
}

// spoilNumber changes a system in one place.
func spoilNumber(r *rand.Rand, s *api.System) {
	sym, term := r.IntN(len(s.Terms.Syms)+2)-1, r.IntN(len(s.Terms.Terms)+2)-1
	switch r.IntN(9) {
	case 0:
		s.Init = term
	case 1:
		s.Trans = term
	case 2:
		s.Prop = term
	case 3:
		s.Lemmas = append(s.Lemmas, term)
	case 4:
		s.Now = append(s.Now, sym)
	case 5:
		s.Next = append(s.Next, sym)
	case 6:
		s.Now, s.Next = append(s.Now, sym), append(s.Next, r.IntN(len(s.Terms.Syms)+1))
	case 7:
		if len(s.Next) > 0 {
			s.Next[r.IntN(len(s.Next))] = sym
		}
	case 8:
		if len(s.Now) > 0 {
			s.Now[r.IntN(len(s.Now))] = sym
		}
	}
}

// Systems that are spoilt are checked as the other way checks them.
func TestCheckOfAnySystems(t *testing.T) {
	r := chance()
	seen := map[api.Errno]int{}
	for range 8000 {
		s, _, err := system.Read(anyText(r))
		if err != api.OK {
			t.Fatalf("error %d", err)
		}
		if r.IntN(4) == 0 {
			s = sample()
		}
		for range r.IntN(4) {
			spoilNumber(r, &s)
		}
		want := checked(s)
		checks(t, s, want)
		seen[want]++
	}
	for _, err := range []api.Errno{api.OK, api.ErrArg, api.ErrCount, api.ErrName, api.ErrSort, api.ErrForm} {
		if seen[err] < 20 {
			t.Errorf("error %d was seen %d times only", err, seen[err])
		}
	}
}
