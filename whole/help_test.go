package whole_test

import (
	"math"
	"math/big"
	"math/rand/v2"
	"testing"

	"elenchus/api"
)

// meant is the number that a handed in api.Int stands for, in whatever form it stands.
func meant(a api.Int) *big.Int {
	v := new(big.Int)
	for i := len(a.Abs) - 1; i >= 0; i-- {
		v.Lsh(v, 64)
		v.Or(v, new(big.Int).SetUint64(a.Abs[i]))
	}
	if a.Neg {
		v.Neg(v)
	}
	return v
}

// toldAs fails unless a number has the form in which numbers are told, and is the one that is asked for.
func toldAs(t *testing.T, what string, got api.Int, want *big.Int) {
	t.Helper()
	if n := len(got.Abs); n > 0 && got.Abs[n-1] == 0 {
		t.Fatalf("%s: the last word is 0: %v", what, got)
	}
	if len(got.Abs) == 0 && got.Neg {
		t.Fatalf("%s: 0 is marked as below 0", what)
	}
	if meant(got).Cmp(want) != 0 {
		t.Fatalf("%s: %v, but it is %v", what, meant(got), want)
	}
}

// number makes an api.Int, as it is told, of digits in tens.
func number(t *testing.T, digits string) api.Int {
	t.Helper()
	v, ok := new(big.Int).SetString(digits, 10)
	if !ok {
		t.Fatalf("no number: %q", digits)
	}
	return of(v)
}

// of makes an api.Int, as it is told.
func of(v *big.Int) api.Int {
	a := api.Int{Neg: v.Sign() < 0}
	rest, low := new(big.Int).Abs(v), new(big.Int)
	mask := new(big.Int).SetUint64(^uint64(0))
	for rest.Sign() != 0 {
		a.Abs = append(a.Abs, low.And(rest, mask).Uint64())
		rest.Rsh(rest, 64)
	}
	return a
}

// ofHalves makes a number above 0 of halves of words, the lowest first.
func ofHalves(h ...uint32) api.Int {
	v := new(big.Int)
	for i := len(h) - 1; i >= 0; i-- {
		v.Lsh(v, 32)
		v.Or(v, new(big.Int).SetUint64(uint64(h[i])))
	}
	return of(v)
}

// longer is the same number with last words that are 0.
func longer(a api.Int, more int) api.Int {
	out := api.Int{Neg: a.Neg, Abs: append(api.Nat{}, a.Abs...)}
	return api.Int{Neg: out.Neg, Abs: append(out.Abs, make(api.Nat, more)...)}
}

// power is a power of 2, and a few more.
func power(bits uint, more int64) *big.Int {
	v := new(big.Int).Lsh(big.NewInt(1), bits)
	return v.Add(v, big.NewInt(more))
}

// edges are numbers of all forms about the places where words and their halves end.
func edges() []api.Int {
	out := []api.Int{
		{}, {Neg: true}, {Abs: api.Nat{}}, {Neg: true, Abs: api.Nat{}},
		{Abs: api.Nat{0}}, {Neg: true, Abs: api.Nat{0, 0, 0}},
	}
	for _, bits := range []uint{0, 1, 2, 31, 32, 33, 63, 64, 65, 96, 127, 128, 129, 192, 640} {
		for more := int64(-1); more <= 1; more++ {
			a := of(power(bits, more))
			b := api.Int{Neg: true, Abs: a.Abs}
			out = append(out, a, b, longer(a, 1), longer(b, 3))
		}
	}
	return out
}

// chance is the same in each run.
func chance() *rand.Rand {
	return rand.New(rand.NewPCG(1, 24))
}

// anyNumber is of at most so many words, in any form; among its words those stand
// out that make carries, borrows and wrong guesses.
func anyNumber(r *rand.Rand, words int) api.Int {
	a := api.Int{Neg: r.IntN(2) == 0}
	for range r.IntN(words + 1) {
		a.Abs = append(a.Abs, anyWord(r))
	}
	return a
}

func anyWord(r *rand.Rand) uint64 {
	switch r.IntN(9) {
	case 0:
		return 0
	case 1:
		return math.MaxUint64
	case 2:
		return 1
	case 3:
		return 1 << 63
	case 4:
		return 1<<32 - 1
	case 5:
		return 1 << 32
	case 6:
		return math.MaxUint64 - math.MaxUint32
	case 7:
		return math.MaxUint64 - uint64(r.IntN(3))
	}
	return r.Uint64()
}
