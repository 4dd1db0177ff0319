package system_test

import (
	"strings"
	"testing"

	"elenchus/api"
)

func TestWhatIsNoCommand(t *testing.T) {
	for _, text := range []string{
		"§x", "§7", "§:init", "§()", "§(())", "§((declare-fun a () Int))", "§(7)", "§(:set-logic)", "§nosuch", "§(nosuch)",
		"§(nosuch a () Int)", "§(Declare-fun a () Int)", "§(declare-const a Int)", "§(define-fun-rec a () Int 1)", "§(assert true)", "§(check-sat)", "§(exit)",
		"§(|| a () Int)", "§(|declare-fun | a () Int)", "§(! x :init true)", "§(set-option)", "§(setlogic)", "§declare-fun", "§set-logic", "§|set-info|",
		"§(() declare-fun a () Int)", "§(7 declare-fun)", "§(:declare-fun a () Int)", "§(:define-fun a () Int 1)", "§(let ((a 1)) a)", "§(true)",
	} {
		wrong(t, text, api.ErrForm)
		marked(t, text, api.ErrForm)
	}
}

func TestFormsOfDeclareFun(t *testing.T) {
	for _, text := range []string{
		"§(declare-fun)", "§(declare-fun a)", "§(declare-fun a ())", "§(declare-fun a () Int Int)", "§(declare-fun a () Int ())", "§(declare-fun () Int)",
		"§(declare-fun 7 () Int)", "§(declare-fun :a () Int)", "§(declare-fun () () Int)", "§(declare-fun (a) () Int)",
		"§(declare-fun a Int Int)", "§(declare-fun a 0 Int)", "§(declare-fun a :k Int)", "§(declare-fun a x Int)",
		"§(declare-fun a (Bool) Int)", "§(declare-fun a (Int Bool) Int)", "§(declare-fun a (Bool Int) Int)", "§(declare-fun a (int) Int)", "§(declare-fun a (Real) Int)",
		"§(declare-fun a (1) Int)", "§(declare-fun a (:Int) Int)", "§(declare-fun a ((Int)) Int)", "§(declare-fun a (()) Int)", "§(declare-fun a (Int Int Int Int Int Bool) Int)",
		"§(declare-fun a () Real)", "§(declare-fun a () int)", "§(declare-fun a () BOOL)", "§(declare-fun a () 1)", "§(declare-fun a () :Int)", "§(declare-fun a () (Int))", "§(declare-fun a () ())",
		"§(declare-fun a () |Int |)", "§(declare-fun a () ||)", "§(declare-fun a () seven)",
		"§(declare-fun x (Bool) Int)", "§(declare-fun true () Real)", "§(declare-fun || () 7)",
	} {
		wrong(t, text, api.ErrForm)
	}
}

func TestFormsOfDefineFun(t *testing.T) {
	for _, text := range []string{
		"§(define-fun)", "§(define-fun a)", "§(define-fun a ())", "§(define-fun a () Int)", "§(define-fun a () Int 1 1)", "§(define-fun a () Int x :next x!)", "§(define-fun a Int 1)",
		"§(define-fun 7 () Int 1)", "§(define-fun :a () Int 1)", "§(define-fun () () Int 1)", "§(define-fun (a) () Int 1)",
		"§(define-fun a Int Int 1)", "§(define-fun a 0 Int 1)", "§(define-fun a :k Int 1)",
		"§(define-fun a (Int) Int 1)", "§(define-fun a (()) Int 1)", "§(define-fun a ((c Int)) Int c)", "§(define-fun a (0) Int 1)",
		"§(define-fun a () Real 1)", "§(define-fun a () int 1)", "§(define-fun a () 1 1)", "§(define-fun a () :Int 1)", "§(define-fun a () (Int) 1)", "§(define-fun a () || 1)", "§(define-fun a () () 1)",
		"§(define-fun x () Real nosuch)", "§(define-fun true (Int) Int :k)",
	} {
		wrong(t, text, api.ErrForm)
	}
}

func TestFormsOfNotes(t *testing.T) {
	for _, body := range []string{
		"(!)", "(! x)", "(! x :next)", "(! x :next x! :next)", "(! x :next x! :next x!)", "(! x x :next x!)", "(! :next x!)", "(! x x!)",
		"(! x next x!)", "(! x |:next| x!)", "(! x 7 x!)", "(! x (:next) x!)", "(! x () x!)",
		"(! x :nosuch x!)", "(! x :Next x!)", "(! x :named a)", "(! x :nextx x!)", "(! x :nex x!)", "(! x :invar 1)", "(! x :live-property 1)", "(! x :! x!)",
		"(! x :next 7)", "(! x :next :x!)", "(! x :next ())", "(! x :next (x!))", "(! x :next true :init true)",
		"(|!| x :next 7)", "(! nosuch :next 7)", "(! (f) :nosuch x!)", "(! :k :next 7)", "(! () :k 7)",
	} {
		wrong(t, "§(define-fun a () Int "+body+")", api.ErrForm)
		wrong(t, "§(define-fun x () Int "+body+")", api.ErrForm)
	}
	for _, body := range []string{
		"(! b)", "(! b :init)", "(! b :init true true)", "(! b :trans true :init true)", "(! b init true)", "(! b :Init true)", "(! b :true true)", "(! b :property 1)",
		"(! b :init false)", "(! b :init 1)", "(! b :init :true)", "(! b :init ())", "(! b :init (true))", "(! b :init True)", "(! b :init |true |)", "(! b :init b)", "(! b :init 0)",
		"(! b :trans false)", "(! b :trans 1)", "(! b :trans :true)", "(! b :trans (true))", "(! b :trans TRUE)", "(! b :trans ||)",
		"(! b :lemma false)", "(! b :lemma 1)", "(! b :lemma :true)", "(! b :lemma (true))", "(! b :lemma off)", "(! b :lemma t)",
		"(! b :invar-property true)", "(! b :invar-property x)", "(! b :invar-property |0|)", "(! b :invar-property :0)", "(! b :invar-property ())", "(! b :invar-property (0))", "(! b :invar-property (- 1))", "(! b :invar-property -1)",
		"(! b :next 1)", "(! b :next (b!))", "(! nosuch :init 1)", "(! (! b :init true) :init false)",
	} {
		wrong(t, "§(define-fun a () Bool "+body+")", api.ErrForm)
		wrong(t, "§(define-fun x () Bool "+body+")", api.ErrForm)
	}
}

// Init, Trans, Prop and lemmas are asked to be of Bool; that they aren't counts ahead of what else is wrong.
func TestConditionsAreOfBool(t *testing.T) {
	for _, note := range []string{":init true", ":trans true", ":lemma true", ":invar-property 0"} {
		wrong(t, "§(define-fun a () Int (! 1 "+note+"))", api.ErrForm)
		wrong(t, "§(define-fun a () Int (! b "+note+"))", api.ErrForm)
		wrong(t, "§(define-fun x () Int (! nosuch "+note+"))", api.ErrForm)
		wrong(t, initX+transX+propX+"§(define-fun a () Int (! 1 "+note+"))", api.ErrForm)
		wrong(t, "(define-fun a () Bool (! §1 "+note+"))", api.ErrSort)
		right(t, stock+"(define-fun a () Bool (! b "+note+"))"+without(note)+pairX)
	}
}

// without are Init, Trans and Prop, but for the one of this note.
func without(note string) string {
	out := ""
	for _, text := range []string{initX, transX, propX} {
		if !strings.Contains(text, note) {
			out += text
		}
	}
	return out
}

// What :invar-property has behind it may be any numeral.
func TestNumeralsOfProps(t *testing.T) {
	for _, n := range []string{"0", "1", "7", "123456789012345678901234567890"} {
		right(t, counter[:len(counter)-len(propX)]+"(define-fun p () Bool (! (>= x 0) :invar-property "+n+"))")
	}
}

// A list that begins with ! is what notes a body, whatever symbols there are; only there, and only as a symbol.
func TestBodiesThatBeginWithTheMark(t *testing.T) {
	for _, sym := range []string{"(declare-fun ! (Int) Int)", "(declare-fun ! () Int)", "(declare-fun |!| (Int Int Int) Bool)", "(define-fun ! () Int 3)"} {
		for _, body := range []string{"(!)", "(! 1)", "(! x 1 2)", "(! 1 2 3)", "(|!| 1)", "(! x :k 1)"} {
			wrong(t, sym+"§(define-fun a () Int "+body+")", api.ErrForm)
		}
		fits(t, sym+"(define-fun a () Bool (! (< x 3) :lemma true))")
		fits(t, sym+"(define-fun a () Int (! y :next y!))")
	}
	fits(t, "(declare-fun ! (Int) Int)(define-fun a () Int (+ (! 1)))")
	fits(t, "(declare-fun ! (Int) Bool)(define-fun a () Bool (! (! 1) :lemma true))")
	fits(t, "(declare-fun ! () Int)(define-fun a () Int !)(define-fun c () Int (+ (!) a))")
	fits(t, "(define-fun ! () Int 3)(define-fun a () Int !)")
	fits(t, "(declare-fun ! () Int)(declare-fun |next !| () Int)(define-fun a () Int (! ! :next |next !|))")
	fits(t, "(declare-fun ! () Int)(define-fun a () Int (! y :next !))")
	wrong(t, "(define-fun a () Int (+ 1 (§! x :next x!)))", api.ErrName)
	wrong(t, "(define-fun a () Bool (! (§! b :lemma true) :lemma true))", api.ErrName)
	wrong(t, "(declare-fun ! (Int) Bool)(define-fun a () Bool (! (! b §:lemma true) :lemma true))", api.ErrForm)
	wrong(t, "(define-fun a () Int §(:! x :next x!))", api.ErrForm)
	wrong(t, "(define-fun a () Int §((!) x :next x!))", api.ErrForm)
	wrong(t, "(define-fun a () Int §!)", api.ErrName)
	wrong(t, "(define-fun a () Int §:!)", api.ErrForm)
	wrong(t, "(define-fun a () Int (§!! x :next x!))", api.ErrName)
}
