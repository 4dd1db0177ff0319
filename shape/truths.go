package shape

import (
	"slices"

	"elenchus/api"
)

// truth is true or false.
func (f *folding) truth(holds bool) (int, api.Errno) {
	if holds {
		return f.lay(api.Term{Op: api.OpTrue})
	}
	return f.lay(api.Term{Op: api.OpFalse})
}

func (f *folding) not(t api.Term) (int, api.Errno) {
	part := t.Args[0]
	switch f.terms[part].Op {
	case api.OpTrue:
		return f.truth(false)
	case api.OpFalse:
		return f.truth(true)
	case api.OpNot:
		return f.terms[part].Args[0], api.OK
	}
	return f.lay(t)
}

// opposite is the fold of OpNot of a stand-in.
func (f *folding) opposite(n int) (int, api.Errno) {
	return f.not(api.Term{Op: api.OpNot, Args: []int{n}})
}

func (f *folding) and(t api.Term) (int, api.Errno) {
	return f.joined(t, true)
}

func (f *folding) or(t api.Term) (int, api.Errno) {
	return f.joined(t, false)
}

// joined folds OpAnd or OpOr, of no parts of which comes idle: parts that are idle say
// nothing, and one that is its opposite says all.
func (f *folding) joined(t api.Term, idle bool) (int, api.Errno) {
	idleOp, otherOp := api.OpTrue, api.OpFalse
	if !idle {
		idleOp, otherOp = otherOp, idleOp
	}
	var left []int
	for _, part := range t.Args {
		if f.is(part, otherOp) {
			return f.truth(!idle)
		}
		if !f.is(part, idleOp) && !slices.Contains(left, part) {
			left = append(left, part)
		}
	}
	switch {
	case f.haveOpposites(left):
		return f.truth(!idle)
	case len(left) == 0:
		return f.truth(idle)
	case len(left) == 1:
		return left[0], api.OK
	}
	return f.lay(api.Term{Op: t.Op, Args: left})
}

// haveOpposites asks whether a term and OpNot of it are both among some.
func (f *folding) haveOpposites(parts []int) bool {
	return slices.ContainsFunc(parts, func(part int) bool {
		return f.is(part, api.OpNot) && slices.Contains(parts, f.terms[part].Args[0])
	})
}

func (f *folding) iff(t api.Term) (int, api.Errno) {
	one, other := t.Args[0], t.Args[1]
	switch {
	case one == other:
		return f.truth(true)
	case f.is(one, api.OpTrue):
		return other, api.OK
	case f.is(other, api.OpTrue):
		return one, api.OK
	case f.is(one, api.OpFalse):
		return f.opposite(other)
	case f.is(other, api.OpFalse):
		return f.opposite(one)
	}
	return f.lay(t)
}

func (f *folding) ite(t api.Term) (int, api.Errno) {
	condition, first, second := t.Args[0], t.Args[1], t.Args[2]
	switch {
	case f.is(condition, api.OpTrue), first == second:
		return first, api.OK
	case f.is(condition, api.OpFalse):
		return second, api.OK
	case f.is(first, api.OpTrue) && f.is(second, api.OpFalse):
		return condition, api.OK
	case f.is(first, api.OpFalse) && f.is(second, api.OpTrue):
		return f.opposite(condition)
	}
	return f.lay(t)
}
