package whole

import (
	"math/bits"

	"elenchus/api"
)

// Products and quotients are made of halves of words, the lowest first, the
// last one not 0: a word has room for the product of two, and for what is
// carried beside it.

const halfBits = 32

// split makes halves of words.
func split(n api.Nat) []uint32 {
	out := make([]uint32, 0, 2*len(n))
	for _, w := range n {
		out = append(out, uint32(w), uint32(w>>halfBits))
	}
	return trimHalves(out)
}

// join makes words of halves.
func join(h []uint32) api.Nat {
	out := make(api.Nat, 0, (len(h)+1)/2)
	for i := 0; i < len(h); i += 2 {
		w := uint64(h[i])
		if i+1 < len(h) {
			w |= uint64(h[i+1]) << halfBits
		}
		out = append(out, w)
	}
	return out
}

// trimHalves lets go of the last halves that are 0.
func trimHalves(h []uint32) []uint32 {
	for len(h) > 0 && h[len(h)-1] == 0 {
		h = h[:len(h)-1]
	}
	return h
}

// timesHalves is a product.
func timesHalves(a, b []uint32) []uint32 {
	out := make([]uint32, len(a)+len(b))
	for i, x := range a {
		carry := uint64(0)
		for j, y := range b {
			sum := uint64(x)*uint64(y) + uint64(out[i+j]) + carry
			out[i+j] = uint32(sum)
			carry = sum >> halfBits
		}
		out[i+len(b)] = uint32(carry)
	}
	return trimHalves(out)
}

// timesPlus makes halves so many times as great, and adds to them. It changes what it is given.
func timesPlus(h []uint32, factor, more uint32) []uint32 {
	carry := uint64(more)
	for i, x := range h {
		sum := uint64(x)*uint64(factor) + carry
		h[i] = uint32(sum)
		carry = sum >> halfBits
	}
	if carry != 0 {
		h = append(h, uint32(carry))
	}
	return h
}

// divideShort makes halves a quotient of themselves, and tells the rest. It changes what it is given.
func divideShort(h []uint32, by uint32) ([]uint32, uint32) {
	rest := uint64(0)
	for i := len(h) - 1; i >= 0; i-- {
		part := rest<<halfBits | uint64(h[i])
		h[i] = uint32(part / uint64(by))
		rest = part % uint64(by)
	}
	return trimHalves(h), uint32(rest)
}

// divideHalves is quotient and rest, both new memory; b isn't 0.
func divideHalves(a, b []uint32) ([]uint32, []uint32) {
	if len(a) < len(b) {
		return nil, append([]uint32(nil), a...)
	}
	if len(b) == 1 {
		quotient, rest := divideShort(append([]uint32(nil), a...), b[0])
		return quotient, trimHalves([]uint32{rest})
	}
	return divideLong(a, b)
}

// divideLong is quotient and rest, as on paper; b has two halves or more, a no fewer.
func divideLong(a, b []uint32) ([]uint32, []uint32) {
	// The divisor's highest bit is to be set: else a guess may be far off.
	shift := bits.LeadingZeros32(b[len(b)-1])
	by := trimHalves(shiftUp(b, shift))
	rest := shiftUp(a, shift)
	quotient := make([]uint32, len(rest)-len(by))
	for i := len(quotient) - 1; i >= 0; i-- {
		quotient[i] = takeOff(rest[i:i+len(by)+1], by)
	}
	return trimHalves(quotient), shiftDown(rest, shift)
}

// takeOff takes a divisor off as often as it goes, and tells how often; rest has one half more.
func takeOff(rest, by []uint32) uint32 {
	often := guess(rest, by)
	if lessBy(rest, by, often) {
		moreBy(rest, by)
		often--
	}
	return uint32(often)
}

// guess tells from the highest halves how often a divisor goes: right, or one too often.
func guess(rest, by []uint32) uint64 {
	n := len(by)
	head, top := uint64(rest[n])<<halfBits|uint64(rest[n-1]), uint64(by[n-1])
	often, left := head/top, head%top
	// By the highest half alone it may be two too often; the next one tells
	// where it is two, and mostly where it is one.
	if often>>halfBits != 0 || often*uint64(by[n-2]) > left<<halfBits|uint64(rest[n-2]) {
		often--
	}
	return often
}

// lessBy takes a divisor off so often, and tells whether that was too often.
func lessBy(rest, by []uint32, often uint64) bool {
	carry, borrow := uint64(0), uint64(0)
	for i, x := range by {
		product := often*uint64(x) + carry
		carry = product >> halfBits
		left := uint64(rest[i]) - uint64(uint32(product)) - borrow
		rest[i] = uint32(left)
		borrow = left >> 63
	}
	left := uint64(rest[len(by)]) - carry - borrow
	rest[len(by)] = uint32(left)
	return left>>63 != 0
}

// moreBy puts a divisor back once; what is carried out of the highest half is what was borrowed there.
func moreBy(rest, by []uint32) {
	carry := uint64(0)
	for i, x := range by {
		sum := uint64(rest[i]) + uint64(x) + carry
		rest[i] = uint32(sum)
		carry = sum >> halfBits
	}
	rest[len(by)] += uint32(carry)
}

// shiftUp moves bits up, less than a half's: one half more than there were.
func shiftUp(h []uint32, shift int) []uint32 {
	out := make([]uint32, 0, len(h)+1)
	low := uint32(0)
	for _, x := range h {
		out = append(out, x<<shift|low)
		low = x >> (halfBits - shift)
	}
	return append(out, low)
}

// shiftDown moves bits down, less than a half's.
func shiftDown(h []uint32, shift int) []uint32 {
	out := make([]uint32, 0, len(h))
	for i, x := range h {
		high := uint32(0)
		if i+1 < len(h) {
			high = h[i+1] << (halfBits - shift)
		}
		out = append(out, x>>shift|high)
	}
	return trimHalves(out)
}
