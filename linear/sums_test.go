package linear_test

import (
	"math/big"
	"testing"

	"elenchus/api"
	"elenchus/linear"
)

func checkIs(t *testing.T, l api.Linear, want bool) {
	t.Helper()
	if got := linear.Is(l); got != want {
		t.Fatalf("Is of %v: %v, but it is %v", l, got, want)
	}
}

// Whatever Const is, in whatever form, and however far apart terms stand: rising parts are a sum's.
func TestIsOfSums(t *testing.T) {
	parts := [][]int64{nil, {1, 0}, {1, 1}, {-1, 7}, {1, 0, 1, 1}, {-5, 3, 2, 4, 7, 4096}, {1, 0, 1, 1 << 62}}
	for _, p := range parts {
		for _, n := range someNumbers() {
			for _, form := range formsOf(n) {
				l := smallSum(0, p...)
				l.Const = form
				checkIs(t, l, true)
			}
		}
	}
	checkIs(t, api.Linear{}, true)
	checkIs(t, api.Linear{Parts: []api.Part{}}, true)
	for _, n := range someNumbers() {
		for _, form := range formsOf(n) {
			checkIs(t, sum(small(1), part(form, 2), part(of(1), 3)), n.Sign() != 0)
		}
	}
}

// A sum's terms rise, of whatever numbers they are.
func TestIsOfTermsBelowZero(t *testing.T) {
	checkIs(t, smallSum(0, 1, -1), true)
	checkIs(t, smallSum(0, 1, -5, 1, -4, 1, 0, 1, 3), true)
	checkIs(t, smallSum(0, 1, -1<<63, 1, 1<<63-1), true)
	checkIs(t, smallSum(0, 1, -1, 1, -1), false)
	checkIs(t, smallSum(0, 1, -1, 1, -2), false)
	checkIs(t, smallSum(0, 1, 0, 1, -1), false)
	checkIs(t, smallSum(0, 0, -1), false)
}

func TestIsOfOtherLists(t *testing.T) {
	for _, parts := range [][]int64{
		{1, 0, 1, 0}, {1, 1, -1, 1}, {1, 1, 1, 0}, {1, 0, 1, 2, 1, 1}, {1, 0, 1, 1, 1, 1}, {1, 5, 1, 5, 1, 6}, {1, 2, 1, 3, 1, 0},
	} {
		checkIs(t, smallSum(3, parts...), false)
	}
	for _, zero := range zeros() {
		checkIs(t, sum(small(0), part(zero, 0)), false)
		checkIs(t, sum(small(0), part(zero, 0), part(of(1), 1)), false)
		checkIs(t, sum(small(0), part(of(1), 0), part(zero, 1)), false)
		checkIs(t, sum(small(0), part(of(1), 0), part(zero, 1), part(of(1), 2)), false)
	}
}

// checkAdd fails unless a sum is the one of both, whichever is first.
func checkAdd(t *testing.T, a, b api.Linear) {
	t.Helper()
	want := accountOf(a)
	want.enter(b, big.NewInt(1))
	for _, got := range []api.Linear{linear.Add(a, b), linear.Add(b, a)} {
		if !want.isSum(got) || !linear.Is(got) {
			t.Fatalf("Add of %v and %v: %v, but it is %v", a, b, got, want)
		}
	}
}

// checkScale fails unless a sum is so many times the other.
func checkScale(t *testing.T, a api.Linear, k api.Int) {
	t.Helper()
	want := newAccount()
	want.enter(a, meant(k))
	if got := linear.Scale(a, k); !want.isSum(got) || !linear.Is(got) {
		t.Fatalf("Scale of %v by %v: %v, but it is %v", a, k, got, want)
	}
}

// someLists are lists of parts: sums, and such as are none.
func someLists() []api.Linear {
	out := []api.Linear{
		{}, smallSum(7), smallSum(-7), smallSum(0, 1, 0), smallSum(3, 2, 0, -4, 5), smallSum(-3, -2, 0, 4, 5),
		smallSum(1, 1, 3, 1, 3), smallSum(1, 1, 3, -1, 3), smallSum(1, 1, 3, 2, 1, 5, 2), smallSum(2, 5, 1, 0, 0, -5, 1, 6, 1),
		smallSum(0, 0, 0), smallSum(4, 0, 2, 0, 2), smallSum(0, 1, -1, 1, -7), smallSum(0, -1, -7, 3, 0, -1, -1),
		smallSum(0, 1, 1<<63-1, 1, -1<<63, 1, 1<<63-1), smallSum(9, 1, 4, 2, 3, 3, 2, 4, 1, 5, 0),
	}
	for _, n := range someNumbers() {
		for _, form := range formsOf(n) {
			out = append(out, sum(form, part(form, 2), part(small(-1), 0), part(form, 5)))
		}
	}
	for _, zero := range zeros() {
		out = append(out, sum(zero), sum(zero, part(zero, 1)), sum(zero, part(zero, 3), part(of(2), 3), part(zero, 1)))
	}
	return out
}

func TestAdd(t *testing.T) {
	for _, a := range someLists() {
		for _, b := range someLists() {
			checkAdd(t, a, b)
		}
	}
}

func TestScale(t *testing.T) {
	for _, a := range someLists() {
		for _, k := range someNumbers() {
			for _, form := range formsOf(k) {
				checkScale(t, a, form)
			}
		}
	}
}

func TestAddAndScaleOfFew(t *testing.T) {
	want := accountOf(smallSum(6, 3, 0))
	if got := linear.Add(linear.Scale(smallSum(3, 1, 0), small(2)), smallSum(0, 1, 0)); !want.isSum(got) {
		t.Fatalf("twice the sum of x and 3, and x: %v", got)
	}
	want = accountOf(smallSum(-2, 4, 1, -6, 3))
	if got := linear.Scale(smallSum(1, 3, 3, -2, 1), small(-2)); !want.isSum(got) {
		t.Fatalf("parts out of order, -2 times: %v", got)
	}
	if got := linear.Add(smallSum(4, 2, 1, -3, 6), smallSum(-4, 3, 6, -2, 1)); !isNoSum(got) {
		t.Fatalf("a sum and its opposite: %v", got)
	}
	for _, zero := range zeros() {
		if got := linear.Scale(smallSum(4, 2, 1, -3, 6), zero); !isNoSum(got) {
			t.Fatalf("a sum 0 times: %v", got)
		}
	}
}

// checkValue fails unless a list's value is this one.
func checkValue(t *testing.T, l api.Linear, values []api.Int, want *big.Int) {
	t.Helper()
	if got, err := linear.Value(l, values); err != api.OK || !isTold(got, want) {
		t.Fatalf("Value of %v by %v: %v, error %d, but it is %s", l, values, got, err, want)
	}
}

// checkMiss fails unless a list has no value.
func checkMiss(t *testing.T, l api.Linear, values []api.Int) {
	t.Helper()
	if got, err := linear.Value(l, values); err != api.ErrMiss || !isNothing(got) {
		t.Fatalf("Value of %v by %d values: %v, error %d", l, len(values), got, err)
	}
}

// expectedValue is what a list comes to.
func expectedValue(l api.Linear, values []api.Int) *big.Int {
	out := meant(l.Const)
	for _, p := range l.Parts {
		out.Add(out, new(big.Int).Mul(meant(p.Coef), meant(values[p.Term])))
	}
	return out
}

func TestValue(t *testing.T) {
	values := []api.Int{small(5), small(-3), of(0, 1), below(0, 0), of(7, 0)}
	checkValue(t, smallSum(2, 3, 0), values, big.NewInt(17))
	checkValue(t, smallSum(-2, 3, 0, 4, 1), values, big.NewInt(1))
	checkValue(t, smallSum(0, 9, 3, -2, 4), values, big.NewInt(-14))
	checkValue(t, smallSum(1, 2, 2, -1, 2), values, new(big.Int).Add(new(big.Int).Lsh(big.NewInt(1), 64), big.NewInt(1)))
	checkValue(t, smallSum(1, 1, 4, 1, 0, 1, 4, 0, 1), values, big.NewInt(20))
	checkValue(t, smallSum(1, 1, 0, -1, 0), values, big.NewInt(1))
	for _, n := range someNumbers() {
		for _, form := range formsOf(n) {
			for _, l := range []api.Linear{sum(form), sum(small(1), part(form, 0)), sum(form, part(form, 1), part(form, 2)), sum(form, part(small(-1), 0))} {
				checkValue(t, l, values, expectedValue(l, values))
				at := []api.Int{form, form, form}
				checkValue(t, l, at, expectedValue(l, at))
			}
		}
	}
}

func TestValueOfNoParts(t *testing.T) {
	for _, n := range someNumbers() {
		for _, form := range formsOf(n) {
			checkValue(t, sum(form), nil, n)
			checkValue(t, sum(form), []api.Int{}, n)
			checkValue(t, sum(form), []api.Int{small(4)}, n)
		}
	}
}

// A part whose term has no value makes that there is none, wherever it stands and even 0 times.
func TestValueMisses(t *testing.T) {
	values := []api.Int{small(5), small(6)}
	for _, n := range []int{-1, -2, 2, 3, 1 << 62, 1<<63 - 1, -1 << 63} {
		for _, coef := range append(zeros(), of(1), below(3)) {
			checkMiss(t, sum(small(4), part(coef, n)), values)
			checkMiss(t, sum(small(4), part(coef, n), part(of(1), 1)), values)
			checkMiss(t, sum(small(4), part(of(1), 0), part(of(1), 1), part(coef, n)), values)
		}
	}
	checkMiss(t, smallSum(4, 1, 0), nil)
	checkMiss(t, smallSum(4, 0, 0), []api.Int{})
	checkValue(t, smallSum(4, 1, 1), values, big.NewInt(10))
}
