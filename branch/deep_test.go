package branch_test

import (
	"testing"

	"elenchus/api"
)

// strip is a strip between whole numbers that slants so little that none is in it for long.
func strip(low, wide, high int64) problem {
	return box([2]int64{low, low + wide}, [2]int64{low, high}).with(dense(1000, -999), 300+low, 700+low)
}

// As long as it can't be branched more than 64 times within one another, it is no reason to be Unknown:
// here each side of a branch leaves one of two variables less room.
func TestAsDeepAsMayBe(t *testing.T) {
	for wide := int64(1); wide <= 32; wide++ {
		for _, low := range []int64{0, -16, -100, 77777} {
			strip(low, wide, low+wide).clashes(t)
			strip(low, wide, low+wide-1).clashes(t)
		}
	}
	for wide := int64(2); wide <= 16; wide++ {
		p := box([2]int64{0, 2 * wide}, [2]int64{0, wide}, [2]int64{0, wide})
		p.with(dense(1, -2), 0, 0).with(dense(1, 0, -2), 1, 1).clashes(t)
	}
}

// With more room, or with none that ends, it may be Unknown, but not wrong.
func TestDeeper(t *testing.T) {
	for wide := int64(33); wide <= 120; wide++ {
		strip(0, wide, wide).isNot(t, api.Sat)
		strip(-50, wide, wide).isNot(t, api.Sat)
	}
	for _, odd := range []int64{-7, -1, 1, 3, 5} {
		p := problem{vars: 3}.with(sum(1, 0, -2, 1), 0, 0).with(sum(1, 0, -2, 2), odd, odd)
		p.isNot(t, api.Sat)
		p.with(sum(1, 0), -100000, 100000).isNot(t, api.Sat)
		p.with(sum(1, 1), 0, 1<<40).isNot(t, api.Sat)
	}
	// These have whole numbers, but far away.
	strip(0, 1000, 1000).isNot(t, api.Unsat)
	problem{vars: 2}.with(dense(1000, -999), 500, 500).isNot(t, api.Unsat)
	problem{vars: 2}.with(dense(1001, 997), 3, 3).isNot(t, api.Unsat)
	problem{vars: 3}.with(dense(1001, 997, -1003), 3, 3).with(dense(7, -11, 13), 1, 1).isNot(t, api.Unsat)
}

// Where both sides of many branches go on without end, the search comes to an end all the same.
func TestManyDeep(t *testing.T) {
	for n := 1; n <= 4; n++ {
		even, odd := sum(1, 0), sum(1, 0)
		for v := int64(1); v <= int64(n); v++ {
			even.Parts = append(even.Parts, api.Part{Coef: small(-2 * v), Term: int(v)})
			odd.Parts = append(odd.Parts, api.Part{Coef: small(4*v - 6), Term: n + int(v)})
		}
		p := problem{vars: 2*n + 1}.with(even, 0, 0).with(odd, 1, 1)
		for _, fuel := range []int{1, 10, 100, 1000, 20000} {
			if a := p.check(t, fuel); a.kind == api.Sat {
				t.Fatalf("Solve of %v: Sat, but an even number would be odd", p)
			}
		}
	}
}
