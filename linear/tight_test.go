package linear_test

import (
	"math/big"
	"testing"

	"elenchus/api"
	"elenchus/linear"
)

// checkTight fails unless a sum is tightened to just these parts and this number.
func checkTight(t *testing.T, l, want api.Linear, k *big.Int) {
	t.Helper()
	got, left, err := linear.Tight(l)
	if err != api.OK || !accountOf(want).isSum(got) || !isTold(left, k) {
		t.Fatalf("Tight of %v: %v, at most %v, error %d, but it is %v, at most %s", l, got, left, err, want, k)
	}
}

func checkSmallTight(t *testing.T, l, want api.Linear, k int64) {
	t.Helper()
	checkTight(t, l, want, big.NewInt(k))
}

func checkNotTight(t *testing.T, l api.Linear, want api.Errno) {
	t.Helper()
	if got, k, err := linear.Tight(l); err != want || !isNoSum(got) || !isNothing(k) {
		t.Fatalf("Tight of %v: %v, %v, error %d, but its error is %d", l, got, k, err, want)
	}
}

func TestTight(t *testing.T) {
	checkSmallTight(t, smallSum(3, 2, 0, 4, 1), smallSum(0, 1, 0, 2, 1), -2)
	checkSmallTight(t, smallSum(0, 1, 0), smallSum(0, 1, 0), 0)
	checkSmallTight(t, smallSum(0, 5, 3), smallSum(0, 1, 3), 0)
	checkSmallTight(t, smallSum(7, 1, 2, 5, 4), smallSum(0, 1, 2, 5, 4), -7)
	checkSmallTight(t, smallSum(-7, 1, 2, 5, 4), smallSum(0, 1, 2, 5, 4), 7)
	checkSmallTight(t, smallSum(1, 6, 0, 10, 1, 15, 2), smallSum(0, 6, 0, 10, 1, 15, 2), -1)
	checkSmallTight(t, smallSum(1, 6, 0, 10, 1, 14, 2), smallSum(0, 3, 0, 5, 1, 7, 2), -1)
	checkSmallTight(t, smallSum(-11, 12, 0, -18, 1, 30, 9), smallSum(0, 2, 0, -3, 1, 5, 9), 1)
	checkSmallTight(t, smallSum(0, 1, -4, 1, -3), smallSum(0, 1, -4, 1, -3), 0)
}

// How often a part is taken stays above or below 0, the first one, too.
func TestTightOfFirstPartsBelowZero(t *testing.T) {
	checkSmallTight(t, smallSum(3, -2, 0, 4, 1), smallSum(0, -1, 0, 2, 1), -2)
	checkSmallTight(t, smallSum(-3, -2, 0, 4, 1), smallSum(0, -1, 0, 2, 1), 1)
	checkSmallTight(t, smallSum(5, -1, 0), smallSum(0, -1, 0), -5)
	checkSmallTight(t, smallSum(5, -3, 0), smallSum(0, -1, 0), -2)
	checkSmallTight(t, smallSum(-5, -3, 0, -6, 1), smallSum(0, -1, 0, -2, 1), 1)
}

// What is left is rounded down, on both sides of 0.
func TestTightRoundsDown(t *testing.T) {
	for constant, k := range map[int64]int64{-7: 2, -6: 2, -5: 1, -4: 1, -3: 1, -2: 0, -1: 0, 0: 0, 1: -1, 2: -1, 3: -1, 4: -2, 5: -2, 6: -2, 7: -3} {
		for _, first := range []int64{3, -3} {
			checkSmallTight(t, smallSum(constant, first, 1), smallSum(0, first/3, 1), k)
			checkSmallTight(t, smallSum(constant, first, 1, 9, 2), smallSum(0, first/3, 1, 3, 2), k)
		}
	}
}

// Divisors, coefficients and Const may be great, and in any form.
func TestTightOfGreatNumbers(t *testing.T) {
	for _, d := range someNumbers() {
		for _, rest := range someNumbers() {
			for _, two := range formsOf(new(big.Int).Mul(d, big.NewInt(2))) {
				if d.Sign() == 0 {
					continue
				}
				three := told(new(big.Int).Mul(d, big.NewInt(3)))
				size, sign := new(big.Int).Abs(d), int64(d.Sign())
				k := floor(new(big.Int).Neg(rest), size)
				checkTight(t, sum(told(rest), part(two, 1), part(three, 4)), smallSum(0, 2*sign, 1, 3*sign, 4), k)
				for _, form := range formsOf(rest) {
					checkTight(t, sum(form, part(two, 0)), smallSum(0, sign, 0), floor(new(big.Int).Neg(rest), new(big.Int).Mul(size, big.NewInt(2))))
				}
			}
		}
	}
}

// floor is the greatest number that, b times (b above 0), isn't above a.
func floor(a, b *big.Int) *big.Int {
	out := new(big.Int).Quo(a, b)
	if new(big.Int).Mul(out, b).Cmp(a) > 0 {
		out.Sub(out, big.NewInt(1))
	}
	return out
}

func TestTightOfWhatIsNoSum(t *testing.T) {
	for _, l := range []api.Linear{smallSum(3, 1, 1, 1, 1), smallSum(0, 2, 1, 2, 0), smallSum(0, 0, 0), smallSum(1, 4, 0, 0, 1), smallSum(1, 2, 3, 2, -3)} {
		checkNotTight(t, l, api.ErrForm)
	}
	for _, zero := range zeros() {
		checkNotTight(t, sum(small(1), part(zero, 0)), api.ErrForm)
		checkNotTight(t, sum(small(1), part(of(2), 0), part(zero, 1)), api.ErrForm)
	}
}

func TestTightOfNoParts(t *testing.T) {
	for _, n := range someNumbers() {
		for _, form := range formsOf(n) {
			checkNotTight(t, sum(form), api.ErrArg)
			checkNotTight(t, api.Linear{Parts: []api.Part{}, Const: form}, api.ErrArg)
		}
	}
}

// For all whole values (those near 0 are tried) a sum is at most 0 just if the answered one is at most k.
func TestTightAsksTheSame(t *testing.T) {
	for a := int64(-6); a <= 6; a++ {
		for b := int64(-6); b <= 6; b++ {
			for c := int64(-13); c <= 13; c++ {
				if a != 0 && b != 0 {
					checkAsksTheSame(t, smallSum(c, a, 0, b, 1))
				}
			}
		}
	}
}

func checkAsksTheSame(t *testing.T, l api.Linear) {
	t.Helper()
	got, k, err := linear.Tight(l)
	if err != api.OK {
		t.Fatalf("Tight of %v: error %d", l, err)
	}
	for x := int64(-8); x <= 8; x++ {
		for y := int64(-8); y <= 8; y++ {
			values := []api.Int{small(x), small(y)}
			asked := expectedValue(l, values).Sign() <= 0
			if answered := expectedValue(got, values).Cmp(meant(k)) <= 0; answered != asked {
				t.Fatalf("Tight of %v: %v, at most %v: by %d and %d that is %v, but what was asked is %v", l, got, k, x, y, answered, asked)
			}
		}
	}
}
