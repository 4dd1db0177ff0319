package ratio_test

import (
	"math"
	"math/big"
	"math/rand/v2"
	"slices"
	"testing"

	"elenchus/api"
)

func bigNat(n api.Nat) *big.Int {
	v := new(big.Int)
	for i := len(n) - 1; i >= 0; i-- {
		v.Lsh(v, 64)
		v.Or(v, new(big.Int).SetUint64(n[i]))
	}
	return v
}

func bigInt(a api.Int) *big.Int {
	v := bigNat(a.Abs)
	if a.Neg {
		v.Neg(v)
	}
	return v
}

// meant is the fraction that a handed in api.Rat stands for, in whatever form it stands.
func meant(a api.Rat) *big.Rat {
	den := bigNat(a.Den)
	if den.Sign() == 0 {
		den.SetInt64(1)
	}
	return new(big.Rat).SetFrac(bigInt(a.Num), den)
}

// natOf makes an api.Nat, as it is told, of a number that isn't below 0.
func natOf(v *big.Int) api.Nat {
	var n api.Nat
	rest, mask := new(big.Int).Set(v), new(big.Int).SetUint64(math.MaxUint64)
	for rest.Sign() != 0 {
		n = append(n, new(big.Int).And(rest, mask).Uint64())
		rest.Rsh(rest, 64)
	}
	return n
}

func intOf(v *big.Int) api.Int {
	return api.Int{Neg: v.Sign() < 0, Abs: natOf(new(big.Int).Abs(v))}
}

// ratOf makes an api.Rat, as it is told.
func ratOf(v *big.Rat) api.Rat {
	return api.Rat{Num: intOf(v.Num()), Den: natOf(v.Denom())}
}

// small makes an api.Rat as it is told; den isn't 0.
func small(num, den int64) api.Rat {
	return ratOf(big.NewRat(num, den))
}

// toldInt fails unless a number has the form in which numbers are told, and is the one that is asked for.
func toldInt(t *testing.T, what string, got api.Int, want *big.Int) {
	t.Helper()
	exact := intOf(want)
	if got.Neg != exact.Neg || !slices.Equal(got.Abs, exact.Abs) {
		t.Fatalf("%s: %v, but it is %v", what, got, want)
	}
}

// told fails unless a fraction has the form in which fractions are told, and is the one that is asked for.
func told(t *testing.T, what string, got api.Rat, want *big.Rat) {
	t.Helper()
	toldInt(t, what+", Num", got.Num, want.Num())
	if !slices.Equal(got.Den, natOf(want.Denom())) {
		t.Fatalf("%s, Den: %v, but it is %v", what, got.Den, want)
	}
}

func isZeroValue(a api.Rat) bool {
	return !a.Num.Neg && len(a.Num.Abs) == 0 && len(a.Den) == 0
}

// otherForms are the same fraction as it may be handed in.
func otherForms(a api.Rat) []api.Rat {
	out := []api.Rat{a}
	longer := func(n api.Nat, more int) api.Nat {
		return append(slices.Clone(n), make(api.Nat, more)...)
	}
	out = append(out, api.Rat{Num: a.Num, Den: longer(a.Den, 2)})
	out = append(out, api.Rat{Num: api.Int{Neg: a.Num.Neg, Abs: longer(a.Num.Abs, 1)}, Den: longer(a.Den, 1)})
	for _, factor := range []*big.Int{big.NewInt(2), big.NewInt(15), new(big.Int).Lsh(big.NewInt(3), 64)} {
		num := intOf(new(big.Int).Mul(bigInt(a.Num), factor))
		den := natOf(new(big.Int).Mul(bigNat(a.Den), factor))
		out = append(out, api.Rat{Num: num, Den: den}, api.Rat{Num: num, Den: longer(den, 3)})
	}
	if len(a.Den) == 1 && a.Den[0] == 1 {
		out = append(out, api.Rat{Num: a.Num}, api.Rat{Num: a.Num, Den: api.Nat{}}, api.Rat{Num: a.Num, Den: api.Nat{0, 0}})
	}
	if len(a.Num.Abs) == 0 {
		out = append(out, api.Rat{Num: api.Int{Neg: true}, Den: a.Den})
		out = append(out, api.Rat{Num: api.Int{Neg: true, Abs: api.Nat{0, 0}}, Den: api.Nat{0}})
		out = append(out, api.Rat{Num: api.Int{Neg: true, Abs: api.Nat{0}}, Den: api.Nat{6, 4}})
	}
	return out
}

// edges are fractions in all forms: of small numbers, and of numbers about the places where words end.
func edges() []api.Rat {
	var out []api.Rat
	for _, num := range []int64{0, 1, -1, 5, -6} {
		for _, den := range []int64{1, 2, 3} {
			out = append(out, otherForms(small(num, den))...)
		}
	}
	one := big.NewInt(1)
	for _, bits := range []uint{63, 64, 65, 128, 200} {
		power := new(big.Int).Lsh(one, bits)
		less := new(big.Int).Sub(power, one)
		for _, v := range []*big.Rat{
			new(big.Rat).SetInt(power), new(big.Rat).SetFrac(one, power), new(big.Rat).SetFrac(less, power),
			new(big.Rat).SetFrac(power, less), new(big.Rat).SetFrac(less, big.NewInt(-3)),
		} {
			out = append(out, ratOf(v))
		}
	}
	return out
}

// chance is the same in each run.
func chance() *rand.Rand {
	return rand.New(rand.NewPCG(2, 24))
}

func anyNat(r *rand.Rand, words int) api.Nat {
	var n api.Nat
	for range r.IntN(words + 1) {
		n = append(n, anyWord(r))
	}
	return n
}

func anyWord(r *rand.Rand) uint64 {
	switch r.IntN(5) {
	case 0:
		return 0
	case 1:
		return math.MaxUint64
	case 2:
		return uint64(r.IntN(30))
	case 3:
		return 1 << r.IntN(64)
	}
	return r.Uint64()
}

func anyInt(r *rand.Rand, words int) api.Int {
	return api.Int{Neg: r.IntN(2) == 0, Abs: anyNat(r, words)}
}

// anyRat is in any form; its numbers have at most so many words.
func anyRat(r *rand.Rand, words int) api.Rat {
	return api.Rat{Num: anyInt(r, words), Den: anyNat(r, words)}
}
