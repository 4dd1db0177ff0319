package system_test

import (
	"testing"

	"elenchus/api"
)

func TestConditionsThatAreLacking(t *testing.T) {
	for _, text := range []string{
		"", stock, stock + pairX, stock + initX, stock + transX, stock + propX,
		stock + initX + transX, stock + initX + propX, stock + transX + propX,
		stock + pairX + pairB + initX + transX, stock + pairX + pairB + initX + propX, stock + pairX + pairB + transX + propX,
		stock + "(define-fun a () Bool (! b :lemma true))" + transX + propX, stock + "(define-fun init () Bool b)(define-fun trans () Bool b)" + propX,
	} {
		wrongAtEnd(t, text, api.ErrMiss)
	}
	for _, text := range []string{initX + transX + propX, propX + initX + transX, transX + propX + initX} {
		right(t, stock+text)
		right(t, stock+text+pairX)
	}
}

// ahead are conditions that need a symbol of the next state.
func ahead() []string {
	return []string{
		"b!", "(not b!)", "(= x! 0)", "(= x (+ y (* 3 (f (- x!)))))", "(and b off (or off (g 1 x!)))", "(ite b! b off)", "(ite b (= (ite b 1 (f x!)) 2) off)",
		"(< 1 2 3 x!)", "(let ((z x!)) (= z x))", "(= x! x!)", "(and b b b!)", "(=> b! b)", "(xor b b!)", "(distinct x y x!)", "nb!", "(not nb!)", "(=> nx! off)",
	}
}

// Symbols of a next state are needed by steps alone.
func TestConditionsThatLookAhead(t *testing.T) {
	pairs := stock + pairX + pairB + "(define-fun nb! () Bool b!)(define-fun nx! () Bool (= x! 3))"
	for _, body := range ahead() {
		init := "(define-fun i () Bool (! " + body + " :init true))"
		prop := "(define-fun p () Bool (! " + body + " :invar-property 0))"
		trans := "(define-fun t () Bool (! " + body + " :trans true))"
		lemma := "(define-fun l () Bool (! " + body + " :lemma true))"
		right(t, pairs+initX+trans+propX)
		right(t, pairs+initX+transX+propX+"(define-fun l () Bool "+body+")")
		wrongAtEnd(t, pairs+init+transX+propX, api.ErrForm)
		wrongAtEnd(t, pairs+initX+transX+prop, api.ErrForm)
		wrongAtEnd(t, pairs+initX+transX+propX+lemma, api.ErrForm)
		wrongAtEnd(t, pairs+lemma+initX+transX+propX, api.ErrForm)
		wrongAtEnd(t, pairs+initX+transX+propX+"(define-fun l0 () Bool (! b :lemma true))"+lemma+"(define-fun l2 () Bool (! b :lemma true))", api.ErrForm)
		wrongAtEnd(t, pairs+initX+trans+propX+lemma, api.ErrForm)
		wrongAtEnd(t, pairs+initX+trans+propX+"(define-fun l () Bool (! t :lemma true))", api.ErrForm)
		wrongAtEnd(t, pairs+trans+propX+"(define-fun i () Bool (! t :init true))", api.ErrForm)
	}
}

// What is lacking counts ahead of what looks ahead.
func TestLackingConditionsAheadOfForms(t *testing.T) {
	pairs := stock + pairX + pairB
	for _, note := range []string{":init true", ":lemma true", ":invar-property 0"} {
		wrongAtEnd(t, pairs+transX+"(define-fun a () Bool (! b! "+note+"))", api.ErrMiss)
		wrongAtEnd(t, pairs+"(define-fun a () Bool (! b! "+note+"))", api.ErrMiss)
	}
	wrongAtEnd(t, pairs+initX+propX+"(define-fun a () Bool (! b! :lemma true))", api.ErrMiss)
	wrongAtEnd(t, pairs+"(define-fun i () Bool (! b! :init true))(define-fun p () Bool (! b! :invar-property 0))", api.ErrMiss)
}

// It is all the same whether a pair is told ahead of what needs it, or behind it.
func TestPairsBehindConditions(t *testing.T) {
	prop := "(define-fun p () Bool (! (= y! 0) :invar-property 0))"
	right(t, stock+pairX+initX+transX+prop)
	wrongAtEnd(t, stock+pairX+initX+transX+prop+"(define-fun ny () Int (! y :next y!))", api.ErrForm)
	wrongAtEnd(t, stock+"(define-fun ny () Int (! y :next y!))"+pairX+initX+transX+prop, api.ErrForm)
	right(t, stock+pairX+initX+transX+prop+"(define-fun ny () Int (! y! :next y))")
	wrongAtEnd(t, stock+"(define-fun ny () Int (! y! :next y))"+pairX+initX+transX+prop+"(define-fun l () Bool (! (g 0 y) :lemma true))", api.ErrForm)
}
