package tables_test

import (
	"math"
	"math/big"
	"slices"
	"testing"

	"elenchus/api"
	"elenchus/pool"
	"elenchus/value"
)

func TestNothingIsSaid(t *testing.T) {
	made(t, nil)
	for _, arities := range [][]int{{0}, {1}, {4}, {0, 0}, {3, 0, 1, 2}} {
		made(t, symbols(arities...))
	}
}

// Of a symbol that takes no numbers Else is what it tells.
func TestSymbolsOfNoNumbers(t *testing.T) {
	syms := symbols(0, 0, 0)
	for _, row := range alike() {
		for _, a := range row {
			made(t, syms, say(1, a))
			made(t, syms, say(2, a), say(0, small(3)))
			made(t, syms, say(2, a), say(2, row[0]), say(1, small(-5)), say(2, a))
		}
	}
	m := made(t, syms, says(2, 7))
	if !isSameInt(m.Tables[2].Else, small(7)) || !isSameInt(m.Tables[0].Else, small(0)) || len(m.Tables[2].Rows) != 0 {
		t.Fatalf("the number 2 tells 7: %v", m)
	}
}

// Of others there is a row for each of what is said, once, in order.
func TestRows(t *testing.T) {
	syms := symbols(1, 0, 2, 4, 1)
	m := made(t, syms, says(0, 2, 1), says(2, 5, 1, 1), says(0, 3, 2), says(0, 2, 1), says(2, 6, 0, 1), says(2, 5, 1, 1), says(0, 0, -1))
	want := []api.Row{{Args: smalls(1), Val: small(2)}, {Args: smalls(2), Val: small(3)}, {Args: smalls(-1), Val: small(0)}}
	if !slices.EqualFunc(m.Tables[0].Rows, want, isSameRow) || len(m.Tables[2].Rows) != 2 || !isSameInt(m.Tables[0].Else, small(0)) {
		t.Fatalf("not the rows that were said: %v", m)
	}
	made(t, syms, says(3, 1, 1, 2, 3, 4), says(3, 1, 4, 3, 2, 1), says(1, 8), says(4, 1, 1), says(3, 2, 1, 2, 4, 3))
	for _, row := range alike() {
		var l []api.App
		for _, a := range row {
			l = append(l, say(0, a, a), say(2, a, row[0], a), say(2, small(9), a, small(9)), say(1, a))
		}
		m := made(t, syms, l...)
		if len(m.Tables[0].Rows) != 1 || len(m.Tables[2].Rows) != 2 {
			t.Fatalf("the same numbers have more than one row: %v", m)
		}
	}
	var many []api.App
	for i := range int64(900) {
		many = append(many, says(0, i, i-450), says(4, i%2, 450-i), says(2, -i, i%30, i/30))
	}
	made(t, syms, append(many, many...)...)
}

// A number that a symbol of Bool tells stands as it was said.
func TestBool(t *testing.T) {
	syms := symbols(1, 1, 0, 0)
	for _, val := range []api.Int{small(0), small(1), small(2), small(-1), of(0, 1), below(0, 0), of(1, 0)} {
		made(t, syms, say(0, val, small(1)), say(1, val, small(1)), say(2, val), say(3, val))
	}
	refused(t, api.ErrForm, syms, says(1, 1, 3), says(1, 2, 3))
	refused(t, api.ErrForm, syms, says(3, 1), says(3, -1))
}

func TestErrArg(t *testing.T) {
	for count := range 4 {
		syms := symbols(slices.Repeat([]int{1}, count)...)
		for _, sym := range []int{-1, -2, count, count + 1, 256, 1 << 32, -1 << 32, math.MaxInt, math.MinInt} {
			refused(t, api.ErrArg, syms, says(sym, 1, 1))
			refused(t, api.ErrArg, syms, says(sym, 1))
			refused(t, api.ErrArg, syms, says(sym, 1, 1), says(sym, 1, 1))
			if count > 0 {
				refused(t, api.ErrArg, syms, says(0, 1, 1), says(sym, 1, 1))
				refused(t, api.ErrArg, syms, says(sym, 1, 1), says(count-1, 1, 1))
			}
		}
	}
}

func TestErrCount(t *testing.T) {
	for arity := range 5 {
		syms := symbols(arity, 2)
		for count := range 8 {
			args := make([]int64, count)
			if count == arity {
				made(t, syms, says(0, 1, args...), says(1, 1, 2, 3))
				continue
			}
			refused(t, api.ErrCount, syms, says(0, 1, args...))
			refused(t, api.ErrCount, syms, says(1, 1, 2, 3), says(0, 1, args...))
			refused(t, api.ErrCount, syms, says(0, 1, args...), says(1, 1, 2, 3))
		}
	}
	for _, arity := range []int{-1, 5, 1 << 32, math.MaxInt, math.MinInt} {
		syms := []api.Sym{{Name: "f", Arity: arity, Sort: 2}}
		refused(t, api.ErrCount, syms, says(0, 1))
		refused(t, api.ErrCount, syms, says(0, 1, 2))
	}
}

func TestErrForm(t *testing.T) {
	syms := symbols(0, 1, 2)
	refused(t, api.ErrForm, syms, says(0, 1), says(0, 2))
	refused(t, api.ErrForm, syms, says(1, 1, 5), says(1, 2, 5))
	refused(t, api.ErrForm, syms, says(1, 1, 5), says(1, 2, 6), says(2, 7, 5, 6), says(0, 1), says(2, 7, 6, 5), says(2, -7, 5, 6))
	for _, row := range alike() {
		for _, a := range row {
			refused(t, api.ErrForm, syms, say(1, small(7), row[0]), say(1, small(8), a))
			refused(t, api.ErrForm, syms, say(2, a, a, small(3)), say(2, small(3), row[0], small(3)))
		}
	}
}

// Where several things are wrong, in whatever order they are said, a Sym comes first, then how many numbers there are.
func TestWhichErrorComes(t *testing.T) {
	syms := symbols(0, 1, 2)
	noSym, count, one, other := says(3, 1), says(1, 1), says(2, 1, 5, 6), says(2, 2, 5, 6)
	r := chance()
	for range 200 {
		l := []api.App{noSym, count, one, other}
		r.Shuffle(len(l), func(i, k int) { l[i], l[k] = l[k], l[i] })
		refused(t, api.ErrArg, syms, l...)
		is := func(a api.App) func(api.App) bool { return func(b api.App) bool { return isOfSame(a, b) } }
		l = slices.DeleteFunc(l, is(noSym))
		refused(t, api.ErrCount, syms, l...)
		l = slices.DeleteFunc(l, is(count))
		refused(t, api.ErrForm, syms, l...)
	}
	refused(t, api.ErrArg, syms, says(1, 1), says(-1, 1))
	refused(t, api.ErrArg, syms, says(0, 1), says(0, 2), says(-1, 1))
	refused(t, api.ErrCount, syms, says(1, 1), says(1, 2))
	refused(t, api.ErrCount, syms, says(0, 1), says(0, 2), says(2, 1, 1))
	refused(t, api.ErrArg, nil, says(0, 1), says(0, 2))
}

// By the tables each symbol tells what was said; of Bool it is 1, if that isn't 0. Of others it tells 0.
func TestWhatTablesTell(t *testing.T) {
	r := chance()
	for range 3000 {
		var syms []api.Sym
		for _, s := range symbols(r.IntN(5), r.IntN(5), r.IntN(5), 0) {
			s.Sort = 1 + r.IntN(2)
			syms = append(syms, s)
		}
		var l []api.App
		for range r.IntN(12) {
			a := say(r.IntN(len(syms)), anyNumber(r))
			for range syms[a.Sym].Arity {
				a.Args = append(a.Args, anyNumber(r))
			}
			if _, _, found := clash(append(slices.Clone(l), a)); !found {
				l = append(l, a)
			}
		}
		m := made(t, syms, l...)
		for _, a := range l {
			checkTells(t, syms[a.Sym], m.Tables[a.Sym], a)
		}
		for range 5 {
			n := r.IntN(len(syms))
			a := api.App{Sym: n}
			for range syms[n].Arity {
				a.Args = append(a.Args, anyNumber(r))
			}
			if !slices.ContainsFunc(l, func(b api.App) bool { return isOfSame(a, b) }) {
				checkTells(t, syms[n], m.Tables[n], a)
			}
		}
	}
}

// checkTells fails unless by its table a symbol tells so much.
func checkTells(t *testing.T, s api.Sym, table api.Table, a api.App) {
	t.Helper()
	want := told(a.Val)
	if s.Sort == api.Bool && meant(want).Sign() != 0 {
		want = small(1)
	}
	if got := value.Tell(s, table, a.Args); !isSameInt(got, want) {
		t.Fatalf("by %v the symbol %v tells %v of %v, but it is %v", table, s, got, a.Args, want)
	}
}

// What was said is what terms mean by the tables, of symbols of all sorts and counts.
func TestWhatTermsMean(t *testing.T) {
	var syms []api.Sym
	for i, s := range symbols(0, 1, 2, 3, 4, 0, 1, 2, 3, 4) {
		s.Sort = 1 + i/5
		syms = append(syms, s)
	}
	p, e := pool.New(syms)
	if e != api.OK {
		t.Fatalf("New: error %d", e)
	}
	vals := []api.Int{small(0), small(1), small(5), small(-1), below(0, 3)}
	var l []api.App
	var terms []int
	for n, s := range syms {
		for i := range vals {
			var parts []int
			a := say(n, vals[(n+i)%len(vals)])
			for k := range s.Arity {
				part, _ := p.Make(api.Term{Op: api.OpNum, Num: vals[(i+k)%len(vals)]})
				parts, a.Args = append(parts, part), append(a.Args, vals[(i+k)%len(vals)])
			}
			if s.Arity == 0 && i > 0 {
				continue
			}
			term, e := p.Make(api.Term{Op: api.OpApp, Sym: n, Args: parts})
			if e != api.OK {
				t.Fatalf("Make: error %d", e)
			}
			l, terms = append(l, a), append(terms, term)
		}
	}
	values, e := value.Eval(p.Rows(), made(t, syms, l...))
	if e != api.OK {
		t.Fatalf("Eval: error %d", e)
	}
	for i, a := range l {
		want := meant(a.Val)
		if syms[a.Sym].Sort == api.Bool && want.Sign() != 0 {
			want = big.NewInt(1)
		}
		if meant(values[terms[i]]).Cmp(want) != 0 {
			t.Fatalf("%v is said, but it is %v", a, values[terms[i]])
		}
	}
}
