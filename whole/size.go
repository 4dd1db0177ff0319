package whole

import (
	"cmp"
	"math/bits"

	"elenchus/api"
)

// Sizes that come in to the functions here are trimmed, and are not changed;
// those that go out are trimmed, too, and new memory.

// trim lets go of the last words that are 0. It shares memory with what it is given.
func trim(n api.Nat) api.Nat {
	for len(n) > 0 && n[len(n)-1] == 0 {
		n = n[:len(n)-1]
	}
	return n
}

// own is a trimmed copy.
func own(n api.Nat) api.Nat {
	return append(api.Nat(nil), trim(n)...)
}

// ownWord is a size of one word at most.
func ownWord(w uint64) api.Nat {
	if w == 0 {
		return nil
	}
	return api.Nat{w}
}

// compare is -1, 0 or 1.
func compare(a, b api.Nat) int {
	if len(a) != len(b) {
		return cmp.Compare(len(a), len(b))
	}
	for i := len(a) - 1; i >= 0; i-- {
		if a[i] != b[i] {
			return cmp.Compare(a[i], b[i])
		}
	}
	return 0
}

// plus is a sum.
func plus(a, b api.Nat) api.Nat {
	if len(a) < len(b) {
		a, b = b, a
	}
	out := make(api.Nat, 0, len(a)+1)
	carry := uint64(0)
	for i, w := range a {
		other := uint64(0)
		if i < len(b) {
			other = b[i]
		}
		w, carry = bits.Add64(w, other, carry)
		out = append(out, w)
	}
	if carry != 0 {
		out = append(out, carry)
	}
	return out
}

// minus is a difference; b is at most a.
func minus(a, b api.Nat) api.Nat {
	out := make(api.Nat, 0, len(a))
	borrow := uint64(0)
	for i, w := range a {
		other := uint64(0)
		if i < len(b) {
			other = b[i]
		}
		w, borrow = bits.Sub64(w, other, borrow)
		out = append(out, w)
	}
	return trim(out)
}

// times is a product.
func times(a, b api.Nat) api.Nat {
	if fitsHalf(a) && fitsHalf(b) {
		return ownWord(word(a) * word(b))
	}
	return join(timesHalves(split(a), split(b)))
}

// divide is quotient and rest; b isn't 0.
func divide(a, b api.Nat) (api.Nat, api.Nat) {
	if len(a) <= 1 && len(b) <= 1 {
		return ownWord(word(a) / word(b)), ownWord(word(a) % word(b))
	}
	if compare(a, b) < 0 {
		return nil, own(a)
	}
	quotient, rest := divideHalves(split(a), split(b))
	return join(quotient), join(rest)
}

// common is the greatest size that goes into both, by Euclid's way.
func common(a, b api.Nat) api.Nat {
	if len(a) <= 1 && len(b) <= 1 {
		return ownWord(commonWord(word(a), word(b)))
	}
	x, y := split(a), split(b)
	for len(y) > 0 {
		_, rest := divideHalves(x, y)
		x, y = y, rest
	}
	return join(x)
}

func commonWord(a, b uint64) uint64 {
	for b != 0 {
		a, b = b, a%b
	}
	return a
}

// word is a size of one word at most, as a word.
func word(n api.Nat) uint64 {
	if len(n) == 0 {
		return 0
	}
	return n[0]
}

// fitsHalf asks whether a size is one of half a word, so that a word holds the product of two.
func fitsHalf(n api.Nat) bool {
	return len(n) <= 1 && word(n)>>halfBits == 0
}
