package value_test

import (
	"math"
	"testing"

	"elenchus/api"
	"elenchus/value"
)

// checkNotHeld fails unless Holds tells this error.
func checkNotHeld(t *testing.T, r api.Terms, m api.Model, n int, want api.Errno) {
	t.Helper()
	if got, err := value.Holds(r, m, n); got || err != want {
		t.Fatalf("Holds of %d of %v by %v: %v, %d, but its error is %d", n, r, m, got, err, want)
	}
}

// sorted are rows with a term of each Op, and which of them are conditions.
func sorted(t *testing.T) (api.Terms, api.Model, []int) {
	t.Helper()
	l := lay(t, named("p", 0, api.Bool), named("x", 0, api.Whole), named("q", 1, api.Bool), named("f", 1, api.Whole))
	yes, no := l.truth(true), l.truth(false)
	p, x, one := l.add(app(0)), l.add(app(1)), l.add(num(of(1)))
	conditions := []int{yes, no, p, l.add(app(2, x)), l.add(term(api.OpNot, p)), l.add(term(api.OpAnd, p, no)), l.add(term(api.OpOr, p, no)), l.add(term(api.OpIff, p, no)), l.add(term(api.OpEq, x, one)), l.add(term(api.OpLe, x, one))}
	l.add(app(3, x))
	sum := l.add(term(api.OpAdd, x, one))
	product := l.add(mul(of(4), x))
	// Branches tell of which sort an Ite is, not the condition; also where one stands within another.
	number := l.add(term(api.OpIte, p, sum, product))
	for range 3 {
		number = l.add(term(api.OpIte, yes, number, x))
		l.add(term(api.OpIte, no, x, number))
	}
	truth := l.add(term(api.OpIte, p, no, yes))
	conditions = append(conditions, truth)
	for range 3 {
		truth = l.add(term(api.OpIte, yes, truth, p))
		conditions = append(conditions, truth, l.add(term(api.OpIte, no, p, truth)))
	}
	return l.p.Rows(), api.Model{Tables: []api.Table{constant(of(1)), constant(of(1)), constant(of(1)), constant(of(1))}}, conditions
}

func TestHoldsOfEachOp(t *testing.T) {
	r, m, conditions := sorted(t)
	isCondition := make([]bool, len(r.Terms))
	for _, n := range conditions {
		isCondition[n] = true
	}
	for n := range r.Terms {
		if !isCondition[n] {
			checkNotHeld(t, r, m, n, api.ErrSort)
			continue
		}
		want := expected(r, m, n).Sign() != 0
		if got, err := value.Holds(r, m, n); got != want || err != api.OK {
			t.Fatalf("Holds of %d of %v: %v, %d, but it is %v", n, r, got, err, want)
		}
	}
}

// A number is no condition, whatever its value is.
func TestHoldsOfNumbers(t *testing.T) {
	for _, n := range someNumbers() {
		l := lay(t, named("x", 0, api.Whole))
		l.number(n)
		l.add(app(0))
		for asked := range 2 {
			checkNotHeld(t, l.p.Rows(), api.Model{Tables: []api.Table{constant(told(n))}}, asked, api.ErrSort)
		}
	}
}

func TestHoldsOfNoTerm(t *testing.T) {
	r, m, _ := sorted(t)
	for _, n := range []int{-1, -2, len(r.Terms), len(r.Terms) + 1, 4096, math.MaxInt, math.MinInt} {
		checkNotHeld(t, r, m, n, api.ErrArg)
	}
	for _, n := range []int{0, 1, -1, math.MaxInt, math.MinInt} {
		checkNotHeld(t, api.Terms{}, api.Model{}, n, api.ErrArg)
		checkNotHeld(t, api.Terms{Syms: symbols(2)}, tables(2), n, api.ErrArg)
	}
}

// What Eval finds wrong comes ahead of what is wrong with the term.
func TestHoldsByTooFewTables(t *testing.T) {
	r, m, _ := sorted(t)
	for count := range m.Tables {
		few := api.Model{Tables: m.Tables[:count]}
		for n := -1; n <= len(r.Terms); n++ {
			checkNotHeld(t, r, few, n, api.ErrMiss)
		}
		checkNotHeld(t, r, few, math.MinInt, api.ErrMiss)
		checkNotHeld(t, r, few, math.MaxInt, api.ErrMiss)
	}
	checkNotHeld(t, api.Terms{Syms: symbols(1)}, api.Model{}, 0, api.ErrMiss)
}

func TestHoldsByTables(t *testing.T) {
	l := lay(t, named("p", 0, api.Bool), named("q", 1, api.Bool))
	p, q := l.add(app(0)), l.add(app(1, l.add(num(of(3)))))
	both := l.add(term(api.OpAnd, p, q))
	for _, v := range []api.Int{of(1), of(2), below(1), of(0, 1), below(0, 1, 0)} {
		l.checkTruth(p, true, constant(v), api.Table{})
		l.checkTruth(q, true, constant(v), constant(v))
		l.checkTruth(q, true, api.Table{}, api.Table{Rows: []api.Row{row(v, of(3))}})
		l.checkTruth(q, false, constant(v), api.Table{Rows: []api.Row{row(of(), of(3))}, Else: v})
		l.checkTruth(both, true, constant(v), api.Table{Rows: []api.Row{row(of(), of(4))}, Else: v})
	}
	for _, v := range zeros() {
		l.checkTruth(p, false, constant(v), constant(of(1)))
		l.checkTruth(q, false, constant(of(1)), constant(v))
		l.checkTruth(both, false, constant(of(1)), api.Table{Rows: []api.Row{row(v, of(3))}, Else: of(1)})
	}
}
