package tables_test

import (
	"math"
	"math/rand/v2"
	"slices"
	"testing"

	"elenchus/api"
)

// The chapter's example.
func TestExample(t *testing.T) {
	clashes(t, 0, 1, says(0, 2, 1), says(0, 3, 1))
}

func TestNoneClash(t *testing.T) {
	noClash(t)
	noClash(t, says(0, 1))
	noClash(t, says(0, 2, 1))
	noClash(t, says(0, 2, 1), says(0, 3, 2))
	noClash(t, says(0, 2, 1), says(1, 3, 1))
	noClash(t, says(0, 2, 1), says(0, 3, 1, 1), says(0, 4), says(0, 5, 1, 1, 1))
	noClash(t, says(0, 2, 1, 2), says(0, 3, 2, 1), says(0, 4, 1, 1), says(0, 5, 2, 2))
	noClash(t, says(0, 2, 1), says(0, 2, 1), says(0, 2, 1), says(0, -2, -1), says(0, -2, -1))
	var many []api.App
	for i := range int64(3000) {
		many = append(many, says(int(i%3), i/3%7, i/21, i%21))
	}
	noClash(t, append(many, many...)...)
}

// Of several pairs that clash the one with the least second number is told, then the least first one.
func TestWhichClash(t *testing.T) {
	clashes(t, 0, 1, says(0, 1), says(0, 2))
	clashes(t, 1, 2, says(1, 1), says(0, 1), says(0, 2))
	clashes(t, 0, 2, says(0, 1), says(1, 1), says(0, 2))
	clashes(t, 0, 3, says(0, 1), says(0, 1), says(0, 1), says(0, 2))
	clashes(t, 0, 1, says(0, 1), says(0, 2), says(0, 1), says(0, 2), says(0, 3))
	clashes(t, 1, 2, says(0, 1), says(1, 5), says(1, 6), says(0, 2))
	clashes(t, 1, 2, says(0, 1, 7), says(0, 5, 8), says(0, 6, 8), says(0, 2, 7))
	clashes(t, 0, 4, says(3, 1, 1, 2), says(3, 2, 2, 1), says(3, 1, 1, 2), says(3, 2, 2, 1), says(3, 2, 1, 2), says(3, 1, 2, 1))
	clashes(t, 2, 3, says(0, 1), says(1, 1), says(2, 1), says(2, 2), says(1, 2), says(0, 2))
	var many []api.App
	for i := range int64(2000) {
		many = append(many, says(int(i%5), i%13, i))
	}
	for _, n := range []int{0, 1, 700, 1998, 1999} {
		other := many[n]
		other.Val = small(77)
		clashes(t, n, 2000, append(slices.Clone(many), other, other)...)
		clashes(t, n, n+1, slices.Insert(slices.Clone(many), n+1, other)...)
	}
}

// A Sym that is no symbol's number is one like others.
func TestSymsOfNoSymbol(t *testing.T) {
	for _, sym := range []int{-1, -2, 256, 1 << 32, -1 << 32, math.MaxInt, math.MinInt} {
		noClash(t, says(sym, 1, 1), says(0, 2, 1), says(1, 3, 1), says(sym, 1, 1), says(sym, 4), says(sym+1, 5), says(-sym, 4))
		clashes(t, 1, 3, says(0, 7, 4), says(sym, 1, 4), says(0, 7, 4), says(sym, 2, 4), says(0, 8, 4))
	}
}

// alike are numbers that are told alike by unlike memory, row by row.
func alike() [][]api.Int {
	return [][]api.Int{
		zeros(),
		{of(1), of(1, 0), of(1, 0, 0, 0)},
		{below(1), below(1, 0), below(1, 0, 0)},
		{of(0, 1), of(0, 1, 0)},
		{below(0, 1), below(0, 1, 0, 0)},
		{of(1<<63, 1<<64-1), of(1<<63, 1<<64-1, 0)},
		{below(5, 0, 7), below(5, 0, 7, 0)},
	}
}

// Numbers are the same if they are as numbers, of what is asked and of what is told.
func TestNumbersInEachForm(t *testing.T) {
	for r, row := range alike() {
		for _, a := range row {
			for _, b := range row {
				noClash(t, say(0, a, b), say(0, b, a), say(0, b, b), say(1, b), say(1, a), say(2, a, a, b), say(2, b, b, a))
				clashes(t, 0, 1, say(0, small(7), a), say(0, small(8), b))
				clashes(t, 1, 2, say(0, small(7), a, b, b), say(0, small(8), b, a), say(0, small(7), a, b))
			}
			for _, other := range alike()[r+1:] {
				noClash(t, say(0, small(7), a), say(0, small(8), other[0]))
				clashes(t, 0, 1, say(0, a), say(0, other[0]))
				clashes(t, 0, 1, say(0, a, a, other[0]), say(0, other[0], a, other[0]))
			}
		}
	}
}

// None of these are of the same: not those of which symbols, numbers, words and digits, put one behind the
// other, would be one text.
func TestTextsThatRunTogether(t *testing.T) {
	asked := []api.App{
		says(1, 0), says(11, 0), says(111, 0), says(-1, 0), says(-11, 0), says(12, 0), says(1, 0, 2), says(1, 0, 1), says(1, 0, 11), says(11, 0, 1), says(1, 0, 1, 1), says(1, 0, 1, 1, 1),
		says(1, 0, 1, 11), says(1, 0, 11, 1), says(1, 0, 111), says(1, 0, -1), says(1, 0, 1, -1), says(1, 0, -1, 1), says(1, 0, -11), says(1, 0, -1, -1), says(1, 0, 1, -11), says(1, 0, -11, 1),
		says(1, 0, 0), says(1, 0, 0, 0), says(1, 0, 0, 0, 0), says(1, 0, 10), says(1, 0, 1, 0), says(1, 0, 0, 1), says(10, 0), says(10, 0, 0), says(1, 0, 100), says(1, 0, 10, 0),
		says(0, 0), says(0, 0, 0), says(0, 0, 1), says(0, 0, -1), says(0, 0, 0, 1), says(0, 0, 1, 0), says(0, 0, -1, 0), says(0, 0, 0, -1), says(0, 0, 0, 1, 0),
		say(1, api.Int{}, of(1, 1)), say(1, api.Int{}, of(1, 1, 1)), say(1, api.Int{}, of(0, 1)), say(1, api.Int{}, of(0, 0, 1)), say(1, api.Int{}, of(1, 0, 1)), say(1, api.Int{}, of(11, 1)), say(1, api.Int{}, of(1, 11)),
		say(1, api.Int{}, of(0, 1), of(1)), say(1, api.Int{}, of(1), of(0, 1)), say(1, api.Int{}, of(1, 1), of(1)), say(1, api.Int{}, of(1), of(1, 1)), say(1, api.Int{}, of(0, 1), of(0, 1)),
		say(1, api.Int{}, below(1, 1)), say(1, api.Int{}, below(0, 1)), say(1, api.Int{}, below(1), of(1, 1)), say(1, api.Int{}, below(1, 1), of(1)), say(1, api.Int{}, of(1, 1), below(1)), say(1, api.Int{}, of(1), below(1, 1)),
		say(0, api.Int{}, of(0, 1)), say(0, api.Int{}, of(0, 0, 1)), say(0, api.Int{}, of(), of(0, 1)), say(0, api.Int{}, of(0, 1), of()), say(1, api.Int{}, of(2, 1)), says(1, 0, 2, 1), says(1, 0, 1, 2), says(1, 0, 21), says(1, 0, 12),
	}
	for n := range asked {
		asked[n].Val = small(int64(n))
	}
	noClash(t, asked...)
	for n, a := range asked {
		a.Val = small(1000)
		clashes(t, n, len(asked), append(slices.Clone(asked), a)...)
	}
}

// anyNumber is one of few, in any form.
func anyNumber(r *rand.Rand) api.Int {
	return anyOf(r, anyOf(r, alike()...)...)
}

func TestAnyClash(t *testing.T) {
	r := chance()
	found := 0
	for range 20000 {
		var l []api.App
		for range r.IntN(9) {
			a := say(r.IntN(2), anyNumber(r))
			for range r.IntN(3) {
				a.Args = append(a.Args, anyNumber(r))
			}
			l = append(l, a)
		}
		if checkClash(t, l) {
			found++
		}
	}
	if found < 3000 || found > 17000 {
		t.Fatalf("%d of 20000 clash", found)
	}
}
