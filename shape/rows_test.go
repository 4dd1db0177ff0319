package shape_test

import (
	"fmt"
	"math"
	"slices"
	"strconv"
	"strings"
	"testing"

	"elenchus/api"
	"elenchus/shape"
)

// Terms of no rule are as they are, but for their parts.
func TestAllOthersStay(t *testing.T) {
	folds{
		{"true", "true", "0"},
		{"false", "false", "0"},
		{"false | true", "false | true", "0 1"},
		{"#0 | #7 | #-7 | #-18446744073709551616", "#0 | #7 | #-7 | #-18446744073709551616", "0 1 2 3"},
		{"y | q | x | p", "y | q | x | p", "0 1 2 3"},
		{"x | f 0 | f 1 | g 0 2 | g 2 0", "x | f 0 | f 1 | g 0 2 | g 2 0", "0 1 2 3 4"},
		{"x | #0 | add 0 1 | f 2 | f 0", "x | #0 | f 0", "0 1 0 2 2"},
		{"#1 | #2 | add 0 1 | f 2 | g 3 2", "#1 | #2 | #3 | f 2 | g 3 2", "0 1 2 3 4"},
		{"x | *1 0 | y | g 1 2 | g 2 1 | g 0 2", "x | y | g 0 1 | g 1 0", "0 0 1 2 3 2"},
	}.check(t)
}

// Terms are made in the order in which they are told, each once, and all of them, whatever comes of them.
func TestOrderOfTerms(t *testing.T) {
	folds{
		{"", "", ""},
		{"x | #1 | #2 | add 1 2 0 | #3 | p | not 5 | and 5 6 | true | not 8", "x | #1 | #2 | #3 | add 0 3 | p | not 5 | false | true", "0 1 2 4 3 5 6 7 8 7"},
		{"p | x | le 1 1 | *0 1 | not 2 | iff 0 4 | not 0 | false", "p | x | true | #0 | false | not 0", "0 1 2 3 4 5 5 4"},
		{"p | q | and 0 1 | true | and 2 3 | or 4 0 | and 0 1 3", "p | q | and 0 1 | true | or 2 0", "0 1 2 3 2 4 2"},
		{"x | p | #2 | #3 | ite 1 2 3 | #5 | le 4 5 | add 2 3 | le 4 7", "x | p | #2 | #3 | ite 1 2 3 | #5 | le 4 5", "0 1 2 3 4 5 6 5 6"},
	}.check(t)
}

// The rows hold all terms' stand-ins, whatever the roots, and each root has one, as often as it is told.
func TestRoots(t *testing.T) {
	r := rows(t, "true | p | and 0 1 1 | x | #2 | #-2 | add 4 3 5 | not 1 | not 7 | *2 3 | *2 9")
	want, standIns := "true | p | x | #2 | #-2 | not 1 | *2 2 | *4 2", []int{0, 1, 1, 2, 3, 4, 2, 5, 1, 6, 7}
	for _, roots := range [][]int{nil, {}, {0}, {10}, {2}, {8, 2, 1}, {6, 6, 3, 6}, {10, 9, 8, 7, 6, 5, 4, 3, 2, 1, 0}, slices.Repeat([]int{7, 2}, 3000)} {
		got, k := folded(t, r, roots)
		var wanted []int
		for _, root := range roots {
			wanted = append(wanted, standIns[root])
		}
		if written(got) != want || !slices.Equal(k, wanted) {
			t.Errorf("Fold of %q, roots %v: %q, %v, but it is %q, %v", written(r), roots, written(got), k, want, wanted)
		}
	}
}

// Symbols stay, those that nothing is made of, too.
func TestSymbolsStay(t *testing.T) {
	none := api.Terms{}
	if got, k := folded(t, none, nil); len(got.Syms)+len(got.Terms)+len(k) != 0 {
		t.Errorf("Fold of nothing: %v, %v", got, k)
	}
	only := api.Terms{Syms: symbols()}
	if got, k := folded(t, only, nil); len(got.Terms)+len(k) != 0 {
		t.Errorf("Fold of symbols alone: %v, %v", got, k)
	}
	var most []api.Sym
	for i := range api.MaxSyms {
		most = append(most, api.Sym{Name: "s" + strconv.Itoa(i), Arity: i % 5, Sort: 1 + i%2})
	}
	folded(t, api.Terms{Syms: most, Terms: []api.Term{{Op: api.OpTrue}, {Op: api.OpNot, Args: []int{0}}}}, []int{1})
}

// refused fails unless Fold answers an error, and nothing beside it.
func refused(t *testing.T, r api.Terms, roots []int, want api.Errno) {
	t.Helper()
	got, k, err := shape.Fold(r, roots)
	if err != want {
		t.Errorf("Fold of %.300s, roots %v: error %d, but it is %d", fmt.Sprint(r.Terms), roots, err, want)
	}
	if len(got.Syms)+len(got.Terms)+len(k) != 0 {
		t.Errorf("Fold of %.300s, roots %v: beside the error %d there is %v, %v", fmt.Sprint(r.Terms), roots, err, got, k)
	}
}

// with are rows with one term more.
func with(r api.Terms, t api.Term) api.Terms {
	r.Terms = append(slices.Clone(r.Terms), t)
	return r
}

// faulty are rows that may not be, and layer 4's errors of them.
func faulty(t *testing.T) map[string]struct {
	rows api.Terms
	err  api.Errno
} {
	t.Helper()
	type fault = struct {
		rows api.Terms
		err  api.Errno
	}
	r := rows(t, "p | x | true | #3")
	syms := func(more ...api.Sym) api.Terms {
		return api.Terms{Syms: append(symbols(), more...), Terms: r.Terms}
	}
	return map[string]fault{
		"too many symbols":    {syms(make([]api.Sym, api.MaxSyms)...), api.ErrLong},
		"a symbol of no name": {syms(api.Sym{Sort: api.Bool}), api.ErrForm},
		"two of a name":       {syms(api.Sym{Name: "p", Sort: api.Bool}), api.ErrName},
		"no Op":               {with(r, api.Term{}), api.ErrForm},
		"an Op too great":     {with(r, api.Term{Op: 14}), api.ErrForm},
		"a Num of OpNot":      {with(r, api.Term{Op: api.OpNot, Num: small(1), Args: []int{0}}), api.ErrForm},
		"a Sym of OpNot":      {with(r, api.Term{Op: api.OpNot, Sym: 1, Args: []int{0}}), api.ErrForm},
		"no symbol":           {with(r, api.Term{Op: api.OpApp, Sym: 6}), api.ErrName},
		"a symbol below 0":    {with(r, api.Term{Op: api.OpApp, Sym: -1}), api.ErrName},
		"a part of its own":   {with(r, api.Term{Op: api.OpNot, Args: []int{4}}), api.ErrArg},
		"a part below 0":      {with(r, api.Term{Op: api.OpNot, Args: []int{-1}}), api.ErrArg},
		"one part of OpAnd":   {with(r, api.Term{Op: api.OpAnd, Args: []int{0}}), api.ErrCount},
		"parts too many":      {with(r, api.Term{Op: api.OpAnd, Args: make([]int, api.MaxArgs+1)}), api.ErrCount},
		"no part of f":        {with(r, api.Term{Op: api.OpApp, Sym: 4}), api.ErrCount},
		"OpNot of a number":   {with(r, api.Term{Op: api.OpNot, Args: []int{1}}), api.ErrSort},
		"OpAdd of a truth":    {with(r, api.Term{Op: api.OpAdd, Args: []int{1, 0}}), api.ErrSort},
		"branches unlike":     {with(r, api.Term{Op: api.OpIte, Args: []int{0, 1, 0}}), api.ErrSort},
		"a term twice":        {with(r, api.Term{Op: api.OpTrue}), api.ErrForm},
		"a number twice":      {with(r, api.Term{Op: api.OpNum, Num: api.Int{Abs: api.Nat{3, 0}}}), api.ErrForm},
		"terms too many":      {with(manyNumbers(api.MaxTerms), api.Term{Op: api.OpTrue}), api.ErrLong},
	}
}

// manyNumbers are rows of numbers, as many terms as are asked for.
func manyNumbers(count int) api.Terms {
	r := api.Terms{Syms: symbols()}
	for i := range count {
		r.Terms = append(r.Terms, api.Term{Op: api.OpNum, Num: small(int64(i))})
	}
	return r
}

// Rows that may not be are refused, ahead of roots that are none.
func TestFaultyRows(t *testing.T) {
	for name, c := range faulty(t) {
		for _, roots := range [][]int{nil, {0}, {-1}, {0, 1 << 20}} {
			t.Run(name, func(t *testing.T) { refused(t, c.rows, roots, c.err) })
		}
	}
}

func TestRootsThatAreNone(t *testing.T) {
	r := rows(t, "p | true | and 0 1 | not 2")
	for _, none := range []int{-1, 4, 5, -2, math.MinInt, math.MaxInt, api.MaxTerms} {
		for _, roots := range [][]int{{none}, {none, 0}, {0, none}, {3, 2, none, 1}, {none, none}} {
			refused(t, r, roots, api.ErrArg)
		}
	}
	refused(t, api.Terms{}, []int{0}, api.ErrArg)
	refused(t, api.Terms{Syms: symbols()}, []int{0}, api.ErrArg)
}

// A sum may have MaxArgs parts.
func TestSumsOfMostParts(t *testing.T) {
	parts := strings.Repeat(" 0", api.MaxArgs-2)
	folds{
		{"x | #1 | #2 | add 1" + parts + " 2", "x | #1 | #2 | #3 | add" + parts + " 3", "0 1 2 4"},
		{"x | add 0 0" + parts, "x | add 0 0" + parts, "0 1"},
		{"#3 | add 0 0" + parts, "#3 | #192", "0 1"},
		{"p | and 0 0" + parts, "p", "0 0"},
	}.check(t)
}

// Rows of MaxTerms terms are folded, too, and ones in which each needs the one ahead.
func TestRowsOfMostTerms(t *testing.T) {
	checkOther(t, manyNumbers(api.MaxTerms))
	not, times, sums := rows(t, "p"), rows(t, "x"), rows(t, "#1 | x")
	for n := range api.MaxTerms - 1 {
		not.Terms = append(not.Terms, api.Term{Op: api.OpNot, Args: []int{n}})
		times.Terms = append(times.Terms, api.Term{Op: api.OpMul, Num: small(-3), Args: []int{n}})
		if n > 0 {
			sums.Terms = append(sums.Terms, api.Term{Op: api.OpAdd, Args: []int{0, n}})
		}
	}
	checkOther(t, not)
	checkOther(t, times)
	checkOther(t, sums)
}

// growing are rows of x, so many numbers and so many sums of x and two of them: each sum comes to two terms that aren't there.
func growing(numbers, sums int) api.Terms {
	r := api.Terms{Syms: symbols(), Terms: []api.Term{{Op: api.OpApp, Sym: 2}}}
	for i := range numbers {
		v := api.Int{Abs: append(make(api.Nat, i), 1)}
		r.Terms = append(r.Terms, api.Term{Op: api.OpNum, Num: v})
	}
	for i := 1; i <= numbers; i++ {
		for j := i + 1; j <= numbers && sums > 0; j++ {
			r.Terms = append(r.Terms, api.Term{Op: api.OpAdd, Args: []int{i, 0, j}})
			sums--
		}
	}
	return r
}

// Folded rows that would have more terms than may be are refused, whatever the roots.
func TestRowsThatOutgrowTheirPool(t *testing.T) {
	checkOther(t, growing(91, 2002)) // MaxTerms of them, folded
	for _, r := range []api.Terms{growing(91, 2003), growing(92, 2002)} {
		for _, roots := range [][]int{nil, {0}} {
			refused(t, r, roots, api.ErrLong)
		}
		refused(t, r, []int{-1}, api.ErrArg)
	}
}
