package value_test

import (
	"math"
	"math/rand/v2"
	"slices"
	"strconv"
	"testing"

	"elenchus/api"
	"elenchus/value"
)

// chance is the same in each run.
func chance() *rand.Rand {
	return rand.New(rand.NewPCG(5, 24))
}

func anyOf[T any](r *rand.Rand, l ...T) T {
	return l[r.IntN(len(l))]
}

// anyInt is in any form; mostly it is small, so that numbers come up again.
func anyInt(r *rand.Rand) api.Int {
	v := api.Int{Neg: r.IntN(3) == 0}
	if r.IntN(4) > 0 {
		v.Abs = append(v.Abs, uint64(r.IntN(3)))
	}
	if r.IntN(6) == 0 {
		for range r.IntN(4) {
			v.Abs = append(v.Abs, anyOf[uint64](r, 0, 0, 1, 5, math.MaxUint64))
		}
	}
	return v
}

func anyTable(r *rand.Rand, arity int) api.Table {
	t := constant(anyInt(r))
	for range r.IntN(9) {
		var args []api.Int
		count := arity
		if r.IntN(8) == 0 {
			count = r.IntN(6)
		}
		for range count {
			args = append(args, anyInt(r))
		}
		t.Rows = append(t.Rows, row(anyInt(r), args...))
	}
	return t
}

func anyModel(r *rand.Rand, syms []api.Sym) api.Model {
	var m api.Model
	for _, s := range syms {
		m.Tables = append(m.Tables, anyTable(r, s.Arity))
	}
	return m
}

// grown are rows that grow, and their terms' numbers by their sorts.
type grown struct {
	laid
	r    *rand.Rand
	syms []api.Sym
	of   map[int][]int
}

func grow(t *testing.T, r *rand.Rand) grown {
	t.Helper()
	var syms []api.Sym
	for i := range 1 + r.IntN(6) {
		syms = append(syms, named("s"+strconv.Itoa(i), r.IntN(5), 1+r.IntN(2)))
	}
	return grown{lay(t, syms...), r, syms, map[int][]int{}}
}

// anyTerm has parts of the right sorts; where there are none yet, it has no parts.
func (g grown) anyTerm() api.Term {
	op := 1 + g.r.IntN(13)
	count, sort := 0, api.Bool
	switch op {
	case api.OpNum:
		return num(anyInt(g.r))
	case api.OpApp:
		sym := g.r.IntN(len(g.syms))
		return app(sym, g.parts(g.syms[sym].Arity, api.Whole)...)
	case api.OpIte:
		return term(op, append(g.parts(1, api.Bool), g.parts(2, 1+g.r.IntN(2))...)...)
	case api.OpMul:
		t := mul(anyInt(g.r), 0)
		t.Args = g.parts(1, api.Whole)
		return t
	case api.OpNot:
		count = 1
	case api.OpAnd, api.OpOr:
		count = 2 + g.r.IntN(3)
	case api.OpIff:
		count = 2
	case api.OpEq, api.OpLe:
		count, sort = 2, api.Whole
	case api.OpAdd:
		count, sort = 2+g.r.IntN(3), api.Whole
	}
	return term(op, g.parts(count, sort)...)
}

func (g grown) parts(count, sort int) []int {
	var out []int
	for range count {
		if len(g.of[sort]) == 0 {
			return nil
		}
		out = append(out, anyOf(g.r, g.of[sort]...))
	}
	return out
}

// rows are some terms; what may not be is left out.
func (g grown) rows(count int) api.Terms {
	for range count {
		n, err := g.p.Make(g.anyTerm())
		if err != api.OK {
			continue
		}
		sort, _ := g.p.Sort(n)
		g.of[sort] = append(g.of[sort], n)
	}
	return g.p.Rows()
}

// Whatever rows and tables are given, values are as the document asks.
func TestEvalOfAnyRows(t *testing.T) {
	r := chance()
	for range 400 {
		g := grow(t, r)
		rows := g.rows(40)
		for range 3 {
			m := anyModel(r, g.syms)
			checkEval(t, rows, m)
			checkAnyHolds(t, g, rows, m)
		}
	}
}

func checkAnyHolds(t *testing.T, g grown, rows api.Terms, m api.Model) {
	t.Helper()
	if len(rows.Terms) == 0 {
		return
	}
	n := g.r.IntN(len(rows.Terms))
	sort, _ := g.p.Sort(n)
	want, wantErr := expected(rows, m, n).Sign() != 0, api.OK
	if sort == api.Whole {
		want, wantErr = false, api.ErrSort
	}
	if got, err := value.Holds(rows, m, n); got != want || err != wantErr {
		t.Fatalf("Holds of %d of %v by %v: %v, %d, but it is %v, %d", n, rows, m, got, err, want, wantErr)
	}
}

func equalValues(a, b []api.Int) bool {
	return slices.EqualFunc(a, b, func(x, y api.Int) bool { return x.Neg == y.Neg && slices.Equal(x.Abs, y.Abs) })
}

func eval(t *testing.T, r api.Terms, m api.Model) []api.Int {
	t.Helper()
	got, err := value.Eval(r, m)
	if err != api.OK {
		t.Fatalf("Eval of %v by %v: error %d", r, m, err)
	}
	return got
}

// likeTables are tables that tell the same: numbers in other forms, rows that stand twice,
// and rows of more numbers than are asked.
func likeTables(r *rand.Rand, m api.Model) api.Model {
	var out api.Model
	for _, t := range m.Tables {
		like := constant(anyOf(r, formsOf(meant(t.Else))...))
		for _, line := range t.Rows {
			var args []api.Int
			for _, v := range line.Args {
				args = append(args, anyOf(r, formsOf(meant(v))...))
			}
			like.Rows = append(like.Rows, row(anyOf(r, formsOf(meant(line.Val))...), args...), row(anyInt(r), line.Args...), row(anyInt(r), make([]api.Int, 5)...))
		}
		out.Tables = append(out.Tables, like)
	}
	return out
}

// A value hangs on what the tables tell alone: not on names, on what stands behind in the rows,
// on further tables, or on how numbers stand.
func TestValuesHangOnTablesAlone(t *testing.T) {
	r := chance()
	for range 200 {
		g := grow(t, r)
		rows := g.rows(30)
		m := anyModel(r, g.syms)
		want := eval(t, rows, m)
		other := api.Terms{Syms: slices.Clone(rows.Syms), Terms: slices.Clone(rows.Terms)}
		for i := range other.Syms {
			other.Syms[i].Name = "other " + strconv.Itoa(i)
		}
		for i, what := range other.Terms {
			other.Terms[i].Num = anyOf(r, formsOf(meant(what.Num))...)
		}
		like := likeTables(r, m)
		if got := eval(t, other, like); !equalValues(got, want) {
			t.Fatalf("values of %v by %v: %v, but they are %v", other, like, got, want)
		}
		like.Tables = append(like.Tables, anyTable(r, 1), api.Table{})
		head := r.IntN(len(other.Terms) + 1)
		other.Terms = other.Terms[:head]
		if got := eval(t, other, like); !equalValues(got, want[:head]) {
			t.Fatalf("values of %v by %v: %v, but they are %v", other, like, got, want[:head])
		}
		if got := eval(t, rows, m); !equalValues(got, want) {
			t.Fatalf("values of %v by %v asked again: %v, but they were %v", rows, m, got, want)
		}
	}
}

// Like values of parts make like values: each term is made again of parts that are others, but of like values.
func TestLikeParts(t *testing.T) {
	r := chance()
	for range 200 {
		g := grow(t, r)
		rows := g.rows(30)
		m := anyModel(r, g.syms)
		values := eval(t, rows, m)
		twins := g.twins(rows, values)
		got := eval(t, g.p.Rows(), m)
		for n, twin := range twins {
			if !equalValues(got[n:n+1], got[twin:twin+1]) {
				t.Fatalf("by %v, of %v: the terms %d and %d have parts of like values, but their own are %v and %v", m, g.p.Rows(), n, twin, got[n], got[twin])
			}
		}
	}
}

// twins are terms by those of which they are made again: each part is a number, or a truth, that is its value.
func (g grown) twins(rows api.Terms, values []api.Int) map[int]int {
	g.t.Helper()
	out := map[int]int{}
	for n, what := range rows.Terms {
		var parts []int
		for _, part := range what.Args {
			v := meant(values[part])
			if sort, _ := g.p.Sort(part); sort == api.Bool {
				parts = append(parts, g.truth(v.Sign() != 0))
			} else {
				parts = append(parts, g.number(v))
			}
		}
		what.Args = parts
		out[n] = g.add(what)
	}
	return out
}

// What is told of any numbers is as the document asks.
func TestTellOfAnyTables(t *testing.T) {
	r := chance()
	for range 4000 {
		arity := r.IntN(5)
		table := anyTable(r, arity)
		args := make([]api.Int, arity)
		for i := range args {
			args[i] = anyInt(r)
		}
		if len(table.Rows) > 0 && r.IntN(2) == 0 {
			args = slices.Clone(anyOf(r, table.Rows...).Args)
			for i, v := range args {
				args[i] = anyOf(r, formsOf(meant(v))...)
			}
		}
		s := named("f", arity, 1+r.IntN(2))
		checkTold(t, s, table, args, expectedTell(s, table, meantAll(args)))
	}
}
