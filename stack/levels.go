package stack

import (
	"slices"

	"elenchus/api"
	"elenchus/smt"
)

// stack is levels of asserted terms, and what was answered by now.
type stack struct {
	rows       api.Terms
	sort       func(int) (int, api.Errno) // of a term
	asserted   []int                      // each once, level by level
	isAsserted []bool                     // by term
	begins     []int                      // of each level but the first one: how many were asserted ahead of it
	answers    []api.Answer
	left       int // fuel
}

// newStack is a stack of one level, in which nothing is asserted.
func newStack(r api.Terms, sort func(int) (int, api.Errno), fuel int) *stack {
	return &stack{rows: r, sort: sort, isAsserted: make([]bool, len(r.Terms)), left: fuel}
}

// acts are what commands do, by their Kinds.
func (s *stack) acts() map[int]func([]int) api.Errno {
	return map[int]func([]int) api.Errno{
		api.CmdPush:   s.push,
		api.CmdPop:    s.pop,
		api.CmdAssert: s.assert,
		api.CmdCheck:  s.check,
	}
}

// run does command by command, up to the first with which something is wrong.
func (s *stack) run(cmds []api.Cmd) api.Errno {
	acts := s.acts()
	for _, c := range cmds {
		act, ok := acts[c.Kind]
		if !ok {
			return api.ErrForm
		}
		if e := act(c.Terms); e != api.OK {
			return e
		}
	}
	return api.OK
}

func (s *stack) push(terms []int) api.Errno {
	if len(terms) > 0 {
		return api.ErrForm
	}
	s.begins = append(s.begins, len(s.asserted))
	return api.OK
}

func (s *stack) pop(terms []int) api.Errno {
	last := len(s.begins) - 1
	switch {
	case len(terms) > 0:
		return api.ErrForm
	case last < 0:
		return api.ErrCount
	}
	begin := s.begins[last]
	for _, t := range s.asserted[begin:] {
		s.isAsserted[t] = false
	}
	s.asserted, s.begins = s.asserted[:begin], s.begins[:last]
	return api.OK
}

// assert leaves out what is asserted by now: that goes no sooner than the last level does, and so what
// a check costs doesn't hang on how often a term was asserted.
func (s *stack) assert(terms []int) api.Errno {
	if e := s.fault(terms); e != api.OK {
		return e
	}
	for _, t := range terms {
		if !s.isAsserted[t] {
			s.isAsserted[t] = true
			s.asserted = append(s.asserted, t)
		}
	}
	return api.OK
}

// check asks for what is asserted in an order of its own, so that the answer doesn't hang on how it came.
func (s *stack) check(terms []int) api.Errno {
	if e := s.fault(terms); e != api.OK {
		return e
	}
	var a api.Answer
	if s.left > 0 {
		used := 0
		a, used, _ = smt.Solve(s.rows, slices.Sorted(slices.Values(s.asserted)), terms, s.left)
		s.left -= used
	}
	s.answers = append(s.answers, a)
	return api.OK
}

// fault is what is wrong with a command's terms: one that is none counts ahead of all sorts.
func (s *stack) fault(terms []int) api.Errno {
	wrong := api.OK
	for _, t := range terms {
		sort, e := s.sort(t)
		switch {
		case e != api.OK:
			return e
		case sort != api.Bool:
			wrong = api.ErrSort
		}
	}
	return wrong
}
