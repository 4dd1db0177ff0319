package system_test

import (
	"slices"
	"strconv"
	"strings"
	"testing"

	"elenchus/api"
	"elenchus/system"
)

const counter = "(declare-fun x () Int)(declare-fun x! () Int)" + pairX + initX + transX + propX

func TestReadOfACounter(t *testing.T) {
	reads(t, counter, "x Int, x! Int; x, 0, eq 0 1, x!, 1, add 0 4, eq 3 5, le 1 0; 0 > 1; 2 6 7; ")
}

func TestReadOfASystemWithAllThereMayBe(t *testing.T) {
	reads(t, `
; A counter that is slowed down by a table, and a flag.
(set-logic QF_UFLIA)
(set-info :status unknown)
(declare-fun slow (Int) Bool)
(declare-fun n () Int) (declare-fun n! () Int)
(declare-fun on () Bool)
(declare-fun on! () Bool)
(define-fun .n () Int (! n :next n!))
(define-fun .on () Bool (! on :next on!))
(define-fun start () Bool (! (and on (= n 0)) :init true))
(define-fun grown () Bool (= n! (+ n 1)))
(define-fun step () Bool (! (ite (slow n) (= n! n) grown) :trans true))
(define-fun never () Bool (! (>= n 0) :invar-property 17))
(define-fun first () Bool (! (or on (> n 0)) :lemma true))
(define-fun second () Bool (! on :lemma true))
`, "slow Int Bool, n Int, n! Int, on Bool, on! Bool; "+
		"n, on, 0, eq 0 2, and 1 3, n!, 1, add 0 6, eq 5 7, slow 0, eq 5 0, ite 9 10 8, le 2 0, add 2 6, le 13 0, or 1 14; "+
		"1 3 > 2 4; 4 11 12; 15 1")
}

// A system may have no state, and conditions of one term.
func TestReadWithoutState(t *testing.T) {
	reads(t, "(define-fun i () Bool (! true :init true))(define-fun t () Bool (! true :trans true))(define-fun p () Bool (! true :invar-property 1))", "; true;  > ; 0 0 0; ")
	reads(t, "(define-fun p () Bool (! false :invar-property 1))(define-fun t () Bool (! (not p) :trans true))(define-fun i () Bool (! t :init true))", "; false, not 0;  > ; 1 1 0; ")
}

func TestReadOfTheEmptyText(t *testing.T) {
	for _, text := range []string{"", " ", "\n\t; (nosuch)", "(set-logic X)", "(set-info)"} {
		refused(t, text, len(text), api.ErrMiss)
	}
}

// What the signs are wrong with counts ahead of all commands.
func TestReadTellsTheErrorsOfLayer3(t *testing.T) {
	marked(t, "(nosuch) §\\", api.ErrLex)
	marked(t, counter+"(define-fun a () Int §01)", api.ErrLex)
	marked(t, "(nosuch)§)", api.ErrClose)
	marked(t, "(declare-fun a () Int) (nosuch) §(", api.ErrOpen)
	marked(t, counter+" §|", api.ErrOpen)
	marked(t, "(nosuch) "+strings.Repeat("(", api.MaxDeep)+"§(", api.ErrDeep)
	marked(t, "§(nosuch)"+strings.Repeat(" ", api.MaxText), api.ErrLong)
	refused(t, counter+strings.Repeat(" ", api.MaxText+1-len(counter)), 0, api.ErrLong)
	right(t, counter+strings.Repeat(" ", api.MaxText-len(counter)))
}

// Blanks, comments and bars mean nothing.
func TestReadOfOtherSigns(t *testing.T) {
	want := show(right(t, counter))
	reads(t, strings.NewReplacer("(", " ( ", ")", "\n)\t").Replace(counter), want)
	reads(t, strings.ReplaceAll(counter, " ", " ; )\n"), want)
	reads(t, "; x\n"+strings.NewReplacer("declare-fun", "|declare-fun|", "define-fun", "|define-fun|", "Int", "|Int|", "Bool", "|Bool|", "x!", "|x!|", "(! ", "(|!| ", " true", " |true|").Replace(counter), want)
}

func TestReadOfCommandsThatSayNothing(t *testing.T) {
	want := show(right(t, counter))
	for _, nothing := range []string{
		"(set-logic)", "(set-info)", "(set-logic QF_LIA)", "(set-info :source |any text|)", "(set-logic 1 2 3)", "(set-info () (()) :a 7 |b c| x)",
		"(set-logic (declare-fun x () Int))", "(set-info nosuch (nosuch))", "(|set-logic|)", "(|set-info| 0)", "(set-info . . (define-fun nx () Int x))",
	} {
		reads(t, nothing+counter, want)
		reads(t, counter+nothing, want)
		reads(t, strings.ReplaceAll(counter, ")(d", ")"+nothing+"(d"), want)
	}
}

func TestReadOfDeclarations(t *testing.T) {
	s := fits(t, "(declare-fun a () Bool)(declare-fun |b c| (Int) Int)(declare-fun c (Int Int Int Int) Bool)(declare-fun d (Int Int Int) Int)(declare-fun |1| () |Int|)")
	want := []api.Sym{named("a", 0, api.Bool), named("b c", 1, api.Whole), named("c", 4, api.Bool), named("d", 3, api.Whole), named("1", 0, api.Whole)}
	if got := s.Terms.Syms[9:]; !slices.Equal(got, want) {
		t.Fatalf("the symbols are %v, but they are %v", got, want)
	}
}

// All names but those that are taken may be declared and defined, those of commands, sorts, operators and keywords, too.
func TestReadOfAnyNames(t *testing.T) {
	for _, name := range []string{"and", "let", "!", "=", "Int", "Bool", "declare-fun", "set-logic", "next", "|:next|", "True", "|true |", "|1|", "-1", "X", "|x |", "|(|", "|;|", ".", "@0@x"} {
		fits(t, "(declare-fun "+name+" () Int)")
		fits(t, "(declare-fun "+name+" (Int Int) Bool)")
		fits(t, "(define-fun "+name+" () Int 1)")
		fits(t, "(define-fun "+name+" () Bool (! (< x 7) :lemma true))")
	}
	fits(t, "(define-fun || () Int (+ x 1))(define-fun more () Int (+ || 1))")
}

// A name stands for its term in the bodies behind it.
func TestReadOfDefinedNames(t *testing.T) {
	reads(t, "(declare-fun x () Int)(define-fun two () Int 2)(define-fun more () Int (+ x two))(define-fun big () Bool (< two more))"+
		"(define-fun i () Bool (! big :init true))(define-fun t () Bool (! (and i (= more x)) :trans true))(define-fun p () Bool (! (or i t) :invar-property 5))",
		"x Int; 2, x, add 1 0, 1, add 0 3, le 4 2, eq 2 1, and 5 6, or 5 7;  > ; 5 7 8; ")
	for _, body := range []string{"later", "(+ later 1)", "(f later)"} {
		wrong(t, "(define-fun a () Int "+strings.Replace(body, "later", "§later", 1)+")(define-fun later () Int 1)", api.ErrName)
	}
	wrong(t, "(define-fun a () Int (+ §a 1))", api.ErrName)
	wrong(t, "(define-fun a () Int 1)(define-fun c () Int (§a))", api.ErrName)
	wrong(t, "(define-fun a () Int 1)(define-fun c () Int (§a 1))", api.ErrName)
	fits(t, "(define-fun a () Int 1)(define-fun c () Int (let ((a 2)) a))")
}

// A name stands for the term whatever else is said of it.
func TestReadOfNotedNames(t *testing.T) {
	s := fits(t, "(define-fun a () Bool (! (= k 5) :lemma true))(define-fun c () Bool (! (not a) :lemma true))(define-fun d () Int (! y :next y!))(define-fun e () Bool (! (= d y) :lemma true))")
	if len(s.Lemmas) != 3 || s.Terms.Terms[s.Lemmas[1]].Args[0] != s.Lemmas[0] {
		t.Fatalf("names don't stand for their terms: %s", show(s))
	}
	if last := s.Terms.Terms[s.Lemmas[2]]; last.Op != api.OpEq || last.Args[0] != last.Args[1] {
		t.Fatalf("the name of a pair doesn't stand for its symbol: %s", show(s))
	}
	fits(t, "(define-fun a () Bool (! (and i p) :lemma true))")
	wrongAtEnd(t, whole+"(define-fun a () Bool (! (or i t) :lemma true))", api.ErrForm)
}

// Lemmas are any number, in the order in which they are told, one term twice, too.
func TestReadOfLemmas(t *testing.T) {
	reads(t, counter+"(define-fun a () Bool (! (<= x 9) :lemma true))(define-fun b () Bool (! (= x 0) :lemma true))(define-fun c () Bool (! (<= x 9) :lemma true))(define-fun d () Bool (! p :lemma true))",
		"x Int, x! Int; x, 0, eq 0 1, x!, 1, add 0 4, eq 3 5, le 1 0, 9, le 0 8; 0 > 1; 2 6 7; 9 2 9 7")
}

// Pairs stand in the order in which they are told.
func TestReadOfPairs(t *testing.T) {
	s := right(t, stock+pairB+"(define-fun ny () Int (! y! :next y))"+pairX+initX+transX+propX)
	if showNumbers(s.Now) != "4 3 0" || showNumbers(s.Next) != "5 2 1" {
		t.Fatalf("pairs are %v and %v", s.Now, s.Next)
	}
	s = fits(t, "(define-fun dy () Int y)(define-fun ny () Int (! (let ((a dy)) (+ a)) :next |y!|))")
	if showNumbers(s.Now) != "0 4 2" || showNumbers(s.Next) != "1 5 3" {
		t.Fatalf("pairs are %v and %v", s.Now, s.Next)
	}
}

// The greatest numbers that there may be.
func TestReadAtTheLimits(t *testing.T) {
	syms := manySyms(api.MaxSyms - 9)
	if s := fits(t, syms); len(s.Terms.Syms) != api.MaxSyms {
		t.Fatalf("there are %d symbols", len(s.Terms.Syms))
	}
	wrong(t, syms+"(declare-fun §more () Int)", api.ErrLong)
	wrong(t, syms+"(declare-fun §seven () Int)", api.ErrName)
	wrong(t, syms+"(declare-fun §true () Int)", api.ErrName)
	wrong(t, syms+"(declare-fun §false (Int) Int)", api.ErrName)
	wrong(t, syms+"(declare-fun §x () Int)", api.ErrName)
	wrong(t, syms+"(declare-fun §|| () Int)", api.ErrForm)
	wrong(t, syms+"(declare-fun §x (Int Int Int Int Int) Int)", api.ErrForm)
	made := len(right(t, whole).Terms.Terms)
	if s := fits(t, manyTerms(api.MaxTerms-made)); len(s.Terms.Terms) != api.MaxTerms {
		t.Fatalf("there are %d terms", len(s.Terms.Terms))
	}
	marked(t, whole+manyTerms(api.MaxTerms-made)+"(define-fun more () Int §99999)", api.ErrLong)
	marked(t, whole+manyTerms(api.MaxTerms-made)+"(define-fun more () Bool (! (< x §99999) :init true))", api.ErrLong)
	marked(t, whole+manyTerms(api.MaxTerms-made)+"(define-fun §x () Int 99999)", api.ErrName)
}

// manySyms declares so many symbols.
func manySyms(count int) string {
	var out strings.Builder
	for n := range count {
		out.WriteString("(declare-fun s" + strconv.Itoa(n) + " () Int)")
	}
	return out.String()
}

// manyTerms defines names for so many numbers that stand nowhere else: just that many terms are made.
func manyTerms(count int) string {
	var out strings.Builder
	for from := 0; from < count; from += 60 {
		// Of a let the parts are made, but no term of its own.
		out.WriteString("(define-fun n" + strconv.Itoa(from) + " () Int (let (")
		for n := from; n < min(from+60, count); n++ {
			out.WriteString("(a" + strconv.Itoa(n) + " " + strconv.Itoa(1000+n) + ")")
		}
		out.WriteString(") a" + strconv.Itoa(from) + "))")
	}
	return out.String()
}

// What a call answers depends on nothing that was read ahead of it.
func TestReadsAreApart(t *testing.T) {
	want := show(right(t, counter))
	for range 3 {
		refused(t, counter+counter, len(counter)+13, api.ErrName)
		marked(t, "(define-fun a () Int §x)", api.ErrName)
		reads(t, counter, want)
		if _, _, err := system.Read(whole); err != api.OK {
			t.Fatalf("error %d", err)
		}
	}
}
