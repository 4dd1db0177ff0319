package pool_test

import (
	"math"
	"math/rand/v2"
	"strconv"
	"testing"

	"elenchus/api"
	"elenchus/pool"
)

// chance is the same in each run.
func chance() *rand.Rand {
	return rand.New(rand.NewPCG(4, 24))
}

func anyOf[T any](r *rand.Rand, l ...T) T {
	return l[r.IntN(len(l))]
}

// anyInt is in any form.
func anyInt(r *rand.Rand) api.Int {
	v := api.Int{Neg: r.IntN(3) == 0}
	for range r.IntN(4) {
		v.Abs = append(v.Abs, anyOf[uint64](r, 0, 0, 1, 2, 12, math.MaxUint64))
	}
	return v
}

func anySym(r *rand.Rand) api.Sym {
	s := named("s"+strconv.Itoa(r.IntN(30)), r.IntN(5), 1+r.IntN(2))
	switch r.IntN(12) {
	case 0:
		s.Name = ""
	case 1:
		s.Arity = anyOf(r, -1, 5)
	case 2:
		s.Sort = anyOf(r, 0, 3, -2)
	}
	return s
}

// part is the number of some term, mostly one of a sort.
func (o *oracle) part(r *rand.Rand, sort int) int {
	if len(o.terms) == 0 || r.IntN(40) == 0 {
		return anyOf(r, -1, len(o.terms), r.IntN(len(o.terms)+3))
	}
	n := r.IntN(len(o.terms))
	for tries := 0; tries < 20 && o.sorts[n] != sort; tries++ {
		n = r.IntN(len(o.terms))
	}
	return n
}

// anyTerm is mostly one that may be.
func (o *oracle) anyTerm(r *rand.Rand) api.Term {
	t := api.Term{Op: 1 + r.IntN(13)}
	count, sort := 0, api.Bool
	switch t.Op {
	case api.OpNum:
		t.Num = anyInt(r)
	case api.OpApp:
		t.Sym = r.IntN(len(o.syms) + 1)
		if t.Sym < len(o.syms) {
			count, sort = o.syms[t.Sym].Arity, api.Whole
		}
	case api.OpNot:
		count = 1
	case api.OpIff:
		count = 2
	case api.OpAnd, api.OpOr:
		count = 2 + r.IntN(3)
	case api.OpIte:
		return o.spoilt(r, term(api.OpIte, o.branches(r)...))
	case api.OpEq, api.OpLe:
		count, sort = 2, api.Whole
	case api.OpAdd:
		count, sort = 2+r.IntN(3), api.Whole
	case api.OpMul:
		count, sort, t.Num = 1, api.Whole, anyInt(r)
	}
	for range count {
		t.Args = append(t.Args, o.part(r, sort))
	}
	return o.spoilt(r, t)
}

func (o *oracle) branches(r *rand.Rand) []int {
	sort := 1 + r.IntN(2)
	return []int{o.part(r, api.Bool), o.part(r, sort), o.part(r, sort)}
}

// spoilt is a term that may have further faults.
func (o *oracle) spoilt(r *rand.Rand, t api.Term) api.Term {
	for range 2 {
		switch r.IntN(40) {
		case 0:
			t.Op = anyOf(r, 0, 14, -3)
		case 1:
			t.Num = anyInt(r)
		case 2:
			t.Sym = r.IntN(len(o.syms)+3) - 1
		case 3:
			t.Args = append(t.Args, o.part(r, 1+r.IntN(2)))
		case 4:
			t.Args = t.Args[:len(t.Args)/2]
		case 5:
			t.Num = anyOf(r, zeros()...)
		}
	}
	return t
}

// Whatever is asked of a pool, in whatever order, it answers as the document asks.
func TestAnyCalls(t *testing.T) {
	r := chance()
	for range 150 {
		p, o := newPool(t, nil), &oracle{}
		for range 200 {
			checkAnyCall(t, r, p, o)
		}
		checkRows(t, p, o.rows())
		checkMadeAgain(t, p, o)
	}
}

func checkAnyCall(t *testing.T, r *rand.Rand, p *pool.Pool, o *oracle) {
	t.Helper()
	switch r.IntN(10) {
	case 0:
		s := anySym(r)
		got, err := p.Declare(s)
		if want, wantErr := o.declare(s); got != want || err != wantErr {
			t.Fatalf("Declare of %v: %d, %d, but it is %d, %d", s, got, err, want, wantErr)
		}
	case 1:
		n := r.IntN(len(o.terms)+4) - 2
		if n < 0 || n >= len(o.terms) {
			checkNoSort(t, p, n)
		} else {
			checkSort(t, p, n, o.sorts[n])
		}
	default:
		what := o.anyTerm(r)
		got, err := p.Make(what)
		if want, wantErr := o.make(what); got != want || err != wantErr {
			t.Fatalf("Make of %v over %v: %d, %d, but it is %d, %d", what, o.rows(), got, err, want, wantErr)
		}
	}
}

// checkMadeAgain fails unless a pool's rows may be, and a pool that is made of them has the same.
func checkMadeAgain(t *testing.T, p *pool.Pool, o *oracle) {
	t.Helper()
	rows := p.Rows()
	checkCheck(t, rows, api.OK)
	again := newPool(t, rows.Syms)
	for i, what := range rows.Terms {
		checkMade(t, again, what, i)
	}
	checkRows(t, again, rows)
	for i := range rows.Terms {
		checkSort(t, again, i, o.sorts[i])
		checkSort(t, p, i, o.sorts[i])
		checkMade(t, p, rows.Terms[i], i)
	}
	checkRows(t, p, rows)
}

// Rows in which something is exchanged are judged as the document asks.
func TestCheckOfAnyRows(t *testing.T) {
	r := chance()
	for range 1500 {
		o := &oracle{}
		for range 6 {
			o.declare(anySym(r))
		}
		for range 30 {
			o.make(o.anyTerm(r))
		}
		rows := o.rows()
		checkCheck(t, rows, api.OK)
		for range r.IntN(3) {
			exchange(r, o, &rows)
		}
		if got, want := pool.Check(rows), expectedCheck(rows); got != want {
			t.Fatalf("Check of %v: %d, but it is %d", rows, got, want)
		}
	}
}

func exchange(r *rand.Rand, o *oracle, rows *api.Terms) {
	if len(rows.Terms) == 0 || len(rows.Syms) == 0 {
		return
	}
	a, b := r.IntN(len(rows.Terms)), r.IntN(len(rows.Terms))
	switch r.IntN(5) {
	case 0:
		rows.Terms[a], rows.Terms[b] = rows.Terms[b], rows.Terms[a]
	case 1:
		rows.Terms[a] = rows.Terms[b]
	case 2:
		rows.Terms[a] = o.anyTerm(r)
	case 3:
		rows.Syms[r.IntN(len(rows.Syms))] = anySym(r)
	case 4:
		rows.Syms = rows.Syms[1:]
	}
}
