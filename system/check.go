package system

import (
	"slices"

	"elenchus/api"
	"elenchus/pool"
)

// checked is a system whose rows may be, while it is asked whether all else of it may be.
type checked struct {
	api.System
}

// fault is something that may be wrong with a system, and the error that tells so.
type fault struct {
	is  func() bool
	err api.Errno
}

// faults are in the order in which they count. Each is asked only where those ahead
// of it aren't there, so that what it looks up is there.
func (c checked) faults() [5]fault {
	return [...]fault{
		{c.hasWrongNumber, api.ErrArg},
		{c.hasWrongCount, api.ErrCount},
		{c.hasSymbolTwice, api.ErrName},
		{c.hasWrongSort, api.ErrSort},
		{c.looksAhead, api.ErrForm},
	}
}

// wrong is the first fault's error.
func (c checked) wrong() api.Errno {
	for _, f := range c.faults() {
		if f.is() {
			return f.err
		}
	}
	return api.OK
}

// state are the symbols that stand for the state's numbers, now and next.
func (c checked) state() []int {
	return slices.Concat(c.Now, c.Next)
}

// ofOneState are the terms that speak of one state, and of no next one.
func (c checked) ofOneState() []int {
	return append([]int{c.Init, c.Prop}, c.Lemmas...)
}

func (c checked) conditions() []int {
	return append(c.ofOneState(), c.Trans)
}

func (c checked) hasWrongNumber() bool {
	return hasOutside(c.state(), len(c.Terms.Syms)) || hasOutside(c.conditions(), len(c.Terms.Terms))
}

// hasOutside asks whether one of some numbers isn't that of one of so many things.
func hasOutside(numbers []int, things int) bool {
	return slices.ContainsFunc(numbers, func(n int) bool { return n < 0 || n >= things })
}

func (c checked) hasWrongCount() bool {
	return len(c.Now) != len(c.Next)
}

func (c checked) hasSymbolTwice() bool {
	stands := make([]bool, len(c.Terms.Syms))
	for _, sym := range c.state() {
		if stands[sym] {
			return true
		}
		stands[sym] = true
	}
	return false
}

func (c checked) hasWrongSort() bool {
	return slices.ContainsFunc(c.state(), c.takesParts) || c.hasUnlikePair() || c.hasNumberAsCondition()
}

func (c checked) takesParts(sym int) bool {
	return c.Terms.Syms[sym].Arity > 0
}

func (c checked) hasUnlikePair() bool {
	for i, now := range c.Now {
		if c.Terms.Syms[now].Sort != c.Terms.Syms[c.Next[i]].Sort {
			return true
		}
	}
	return false
}

func (c checked) hasNumberAsCondition() bool {
	terms := poolOf(c.Terms)
	return slices.ContainsFunc(c.conditions(), func(t int) bool {
		sort, _ := terms.Sort(t)
		return sort != api.Bool
	})
}

// poolOf is a pool of rows that may be: terms have the same numbers in it.
func poolOf(rows api.Terms) *pool.Pool {
	p, _ := pool.New(rows.Syms)
	for _, t := range rows.Terms {
		p.Make(t)
	}
	return p
}

// looksAhead asks whether a condition other than that of steps needs a symbol of the next state.
func (c checked) looksAhead() bool {
	needs := c.needNext()
	return slices.ContainsFunc(c.ofOneState(), func(t int) bool { return needs[t] })
}

// needNext tells of each term whether it needs a symbol of the next state. Parts are ahead of
// what they are parts of, so that one way through the terms is enough.
func (c checked) needNext() []bool {
	needs := make([]bool, len(c.Terms.Terms))
	isNext := make([]bool, len(c.Terms.Syms))
	for _, sym := range c.Next {
		isNext[sym] = true
	}
	for i, t := range c.Terms.Terms {
		needs[i] = t.Op == api.OpApp && isNext[t.Sym] || slices.ContainsFunc(t.Args, func(part int) bool { return needs[part] })
	}
	return needs
}
