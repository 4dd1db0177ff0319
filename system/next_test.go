package system_test

import (
	"testing"

	"elenchus/api"
)

func TestNextOfWhatIsNoSymbol(t *testing.T) {
	for _, body := range []string{"7", "(+ x 1)", "(f x)", "(- x)", "seven", "(ite b x y)", "(f (f x))", "(let ((x 1)) x)"} {
		for _, value := range []string{"x!", "x", "nosuch", "f", "b", "y!", "true"} {
			wrong(t, "(define-fun a () Int (! §"+body+" :next "+value+"))", api.ErrForm)
		}
	}
	for _, body := range []string{"true", "(not b)", "off", "(g x y)", "(= x 1)", "(and b off)"} {
		for _, value := range []string{"b!", "b", "nosuch", "g", "x", "false"} {
			wrong(t, "(define-fun a () Bool (! §"+body+" :next "+value+"))", api.ErrForm)
		}
	}
}

func TestNextThatIsNoSymbol(t *testing.T) {
	for _, value := range []string{"nosuch", "true", "false", "seven", "dx", "off", "X!", "||", "and", "a", "i", "|x! |"} {
		wrong(t, initX+"(define-fun a () Int (! x :next §"+value+"))", api.ErrName)
		wrong(t, initX+"(define-fun a () Bool (! db :next §"+value+"))", api.ErrName)
	}
	wrong(t, "(define-fun a () Int (! x :next §z))(declare-fun z () Int)", api.ErrName)
	wrong(t, pairX+"(define-fun a () Int (! y :next §nx))", api.ErrName)
	wrong(t, pairX+"(define-fun a () Int (! x :next §nosuch))", api.ErrName)
}

// Of two errors the one that is told first counts: sorts ahead of symbols that stand already.
func TestNextOfAnotherSort(t *testing.T) {
	for _, value := range []string{"f", "g", "b", "b!"} {
		wrong(t, "(define-fun a () Int (! x :next §"+value+"))", api.ErrSort)
		wrong(t, pairX+pairB+"(define-fun a () Int (! x :next §"+value+"))", api.ErrSort)
		wrong(t, pairX+pairB+"(define-fun a () Int (! y :next §"+value+"))", api.ErrSort)
	}
	for _, value := range []string{"f", "g", "x", "x!"} {
		wrong(t, "(define-fun a () Bool (! b :next §"+value+"))", api.ErrSort)
		wrong(t, pairX+pairB+"(define-fun a () Bool (! b :next §"+value+"))", api.ErrSort)
		wrong(t, pairX+pairB+"(define-fun a () Bool (! db :next §"+value+"))", api.ErrSort)
	}
}

func TestNextOfTheSameSymbol(t *testing.T) {
	wrong(t, "(define-fun a () Int (! x :next §x))", api.ErrName)
	wrong(t, "(define-fun a () Int (! dx :next §x))", api.ErrName)
	wrong(t, "(define-fun a () Bool (! b :next §|b|))", api.ErrName)
	wrong(t, "(define-fun a () Int (! (let ((z x)) z) :next §x))", api.ErrName)
}

func TestNextOfWhatStandsAlready(t *testing.T) {
	for _, body := range []string{"x", "x!", "dx", "nx", "(x)", "(+ x)"} {
		wrong(t, pairX+"(define-fun a () Int (! "+body+" :next §y))", api.ErrName)
		wrong(t, pairX+"(define-fun a () Int (! "+body+" :next §x!))", api.ErrName)
		wrong(t, pairX+"(define-fun a () Int (! "+body+" :next §x))", api.ErrName)
	}
	for _, value := range []string{"x", "x!", "|x!|"} {
		wrong(t, pairX+"(define-fun a () Int (! y :next §"+value+"))", api.ErrName)
		wrong(t, pairX+"(define-fun a () Int (! k :next §"+value+"))", api.ErrName)
	}
	wrong(t, pairX+"(define-fun ny () Int (! y :next y!))(define-fun a () Int (! k :next §y!))", api.ErrName)
	wrong(t, pairX+"(define-fun ny () Int (! y :next y!))(define-fun a () Int (! k :next §y))", api.ErrName)
	wrong(t, pairX+"(define-fun ny () Int (! y :next y!))(define-fun a () Int (! y! :next §k))", api.ErrName)
	wrong(t, pairX+"(define-fun ny () Int (! y :next y!))(define-fun a () Int (! y :next §k))", api.ErrName)
	fits(t, "(define-fun ny () Int (! y :next y!))")
	fits(t, "(define-fun ny () Int (! (y) :next k))")
	fits(t, "(define-fun ny () Int (! k :next y))")
}

// An error of :next counts at its command, though all else that is lacking is lacking still.
func TestNextAheadOfTheEnd(t *testing.T) {
	marked(t, "(declare-fun x () Int)(define-fun a () Int (! x :next §x))", api.ErrName)
	marked(t, "(declare-fun x () Int)(define-fun a () Int (! x :next §z))", api.ErrName)
	marked(t, "(declare-fun x () Int)(declare-fun b () Bool)(define-fun a () Int (! x :next §b))", api.ErrSort)
	marked(t, "(declare-fun x () Int)(define-fun a () Int (! §3 :next b))", api.ErrForm)
}
