package system_test

import (
	"strings"
	"testing"

	"elenchus/api"
)

func TestErrorsOfDeclarations(t *testing.T) {
	wrong(t, "(declare-fun §|| () Int)", api.ErrForm)
	wrong(t, "(declare-fun §a (Int Int Int Int Int) Int)", api.ErrForm)
	wrong(t, "(declare-fun §a ("+strings.Repeat(" Int", 1000)+") Bool)", api.ErrForm)
	for _, name := range []string{"x", "x!", "b", "f", "g", "|x|", "seven", "off", "dx", "true", "false", "|true|"} {
		wrong(t, "(declare-fun §"+name+" () Int)", api.ErrName)
		wrong(t, "(declare-fun §"+name+" (Int Int) Bool)", api.ErrName)
		wrong(t, "(declare-fun §"+name+" (Int Int Int Int Int) Bool)", api.ErrForm)
	}
	wrong(t, "(declare-fun a () Int)(declare-fun §a () Int)", api.ErrName)
	wrong(t, "(define-fun a () Int 1)(declare-fun §a () Int)", api.ErrName)
	wrong(t, "(define-fun || () Int 1)(declare-fun §|| () Int)", api.ErrForm)
	wrong(t, pairX+"(declare-fun §nx () Int)", api.ErrName)
	wrong(t, initX+"(declare-fun\n\n §i () Int)", api.ErrName)
}

// A name that is taken counts ahead of what is wrong with the body.
func TestErrorsOfNamesOfDefinitions(t *testing.T) {
	for _, name := range []string{"x", "x!", "b", "f", "g", "|x|", "seven", "off", "dx", "true", "false", "|true|"} {
		for _, body := range []string{"1", "b", "nosuch", "()", ":k", "(f)", "(* x x)", "(! 1 :next nosuch)", "(! b :next f)", "(! nosuch :next x)"} {
			wrong(t, "(define-fun §"+name+" () Int "+body+")", api.ErrName)
		}
		wrong(t, initX+"(define-fun §"+name+" () Bool (! x :init true))", api.ErrName)
	}
	wrong(t, "(define-fun a () Int 1)(define-fun §a () Int 1)", api.ErrName)
	wrong(t, "(define-fun a () Int 1)(define-fun §a () Bool b)", api.ErrName)
	wrong(t, "(declare-fun a (Int) Int)(define-fun §a () Int (a 1))", api.ErrName)
	wrong(t, "(define-fun || () Int 1)(define-fun §|| () Int 1)", api.ErrName)
	wrong(t, pairX+"(define-fun §nx () Int 1)", api.ErrName)
	wrong(t, propX+"(define-fun §p () Int 1)", api.ErrName)
}

// What is wrong with the body is told at its place, noted or not, and counts ahead of its sort.
func TestErrorsOfBodies(t *testing.T) {
	for body, err := range map[string]api.Errno{
		"§nosuch": api.ErrName, "(+ x §nosuch)": api.ErrName, "(§nosuch x)": api.ErrName, "§()": api.ErrForm, "§:k": api.ErrForm, "§((f) x)": api.ErrForm, "§(let () x)": api.ErrForm,
		"(let ((a 1) (§a 2)) a)": api.ErrName, "§f": api.ErrCount, "§(f)": api.ErrCount, "§(f 1 2)": api.ErrCount, "§(not)": api.ErrCount, "(+ 1 §(f b))": api.ErrSort,
		"§(not x)": api.ErrSort, "§(+ b 1)": api.ErrSort, "§(* x y)": api.ErrPower, "§(ite b x off)": api.ErrSort, "(and b §(* x k) ())": api.ErrPower,
	} {
		for _, sort := range []string{"Int", "Bool"} {
			wrong(t, "(define-fun a () "+sort+" "+body+")", err)
			wrong(t, "(define-fun a () "+sort+" (! "+body+" :next nosuch))", err)
			wrong(t, "(define-fun\na\t() "+sort+" (! "+body+" :next a))", err)
		}
		for _, note := range []string{":init true", ":trans true", ":lemma true", ":invar-property 0"} {
			wrong(t, initX+transX+propX+"(define-fun a () Bool (! "+body+" "+note+"))", err)
		}
	}
}

func TestErrorsOfSorts(t *testing.T) {
	for _, body := range []string{"1", "x", "seven", "dx", "(+ x 1)", "(f x)", "(ite b 1 2)", "(let ((b 1)) b)", "nx"} {
		wrong(t, pairX+"(define-fun a () Bool §"+body+")", api.ErrSort)
		fits(t, "(define-fun a () Int "+body+")")
		for _, note := range []string{":init true", ":trans true", ":lemma true", ":invar-property 0", ":next b!", ":next nosuch", ":next f", ":next x"} {
			wrong(t, initX+transX+propX+pairX+"(define-fun a () Bool (! §"+body+" "+note+"))", api.ErrSort)
		}
	}
	for _, body := range []string{"b", "true", "off", "db", "(= x 1)", "(g x 1)", "(ite b b off)", "(let ((x b)) x)", "nb"} {
		wrong(t, pairB+"(define-fun a () Int §"+body+")", api.ErrSort)
		fits(t, "(define-fun a () Bool "+body+")")
		for _, value := range []string{"b!", "x!", "nosuch", "f", "b"} {
			wrong(t, pairB+"(define-fun a () Int (! §"+body+" :next "+value+"))", api.ErrSort)
		}
	}
}

// A second Init, Trans or Prop is told at the command, behind all else.
func TestSecondConditions(t *testing.T) {
	for _, note := range []string{":init true", ":trans true", ":invar-property 1"} {
		wrong(t, initX+transX+propX+"§(define-fun a () Bool (! b "+note+"))", api.ErrName)
		wrong(t, "(define-fun a () Bool (! b "+note+")) §(define-fun c () Bool (! b "+note+"))", api.ErrName)
		wrong(t, "(define-fun a () Bool (! b "+note+")) §(define-fun c () Bool (! a "+note+"))", api.ErrName)
		wrong(t, "(define-fun a () Bool (! b "+note+")) (define-fun §a () Bool (! b "+note+"))", api.ErrName)
		wrong(t, "(define-fun a () Bool (! b "+note+")) (define-fun c () Bool (! §nosuch "+note+"))", api.ErrName)
		wrong(t, "(define-fun a () Bool (! b "+note+")) (define-fun c () Bool (! §x "+note+"))", api.ErrSort)
	}
	wrong(t, propX+"§(define-fun a () Bool (! b :invar-property 0))", api.ErrName)
	wrong(t, propX+"§(define-fun a () Bool (! b :invar-property 1))", api.ErrName)
	fits(t, "(define-fun a () Bool (! b :lemma true))(define-fun c () Bool (! b :lemma true))")
}

// The first command with an error counts.
func TestFirstOfCommands(t *testing.T) {
	faults := []struct {
		text string
		err  api.Errno
	}{
		{"§(nosuch)", api.ErrForm}, {"(declare-fun §x () Int)", api.ErrName}, {"(define-fun a () Int §b)", api.ErrSort}, {"(define-fun a () Int (§nosuch))", api.ErrName},
		{"(define-fun a () Int §f)", api.ErrCount}, {"(define-fun a () Int §(* x x))", api.ErrPower}, {"(define-fun a () Int (! x :next §f))", api.ErrSort}, {"§7", api.ErrForm},
	}
	for _, first := range faults {
		for _, second := range faults {
			wrong(t, first.text+strings.Replace(second.text, "§", "", 1), first.err)
		}
	}
}
