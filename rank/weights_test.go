package rank_test

import (
	"testing"

	"elenchus/api"
	"elenchus/rank"
)

const greatest = 1 << 59

func TestBump(t *testing.T) {
	r := rank.New(4)
	bumps(r, 4, 1, 4, 3)
	weigh(t, r, 1, 0, 1, 2)
	popsAll(t, r, 4, 1, 3, 2)
}

// Each of all is bumped, from the first to the last, and the other way round.
func TestBumpOfEach(t *testing.T) {
	for _, n := range []int{1, 2, 3, 8, 33} {
		for v := 1; v <= n; v++ {
			p := newPair(t, n)
			p.bump(v)
			p.weighs()
			if got, _ := p.pop(); got != v {
				t.Fatalf("Bump of %d of %d: Pop: %d", v, n, got)
			}
			p.empties()
		}
		up, down := newPair(t, n), newPair(t, n)
		for v := 1; v <= n; v++ {
			up.decay(1)
			up.bump(v)
			down.decay(1)
			down.bump(n + 1 - v)
		}
		for _, p := range []pair{up, down} {
			p.weighs()
			p.empties()
		}
	}
}

func TestBumpOfNoVariable(t *testing.T) {
	for _, n := range []int{0, 1, 2, 3, 8, api.MaxTerms} {
		p := newPair(t, n)
		p.bump(noVariables(n)...)
		p.weighs()
		p.decay(3)
		p.bump(noVariables(n)...)
		p.bump(n)
		p.weighs()
		p.empties()
		p.bump(noVariables(n)...)
		p.isEmpty()
		p.weighs()
		if got := p.r.Grow(); got != n+1 {
			t.Fatalf("Bump of no variable: %d variables of %d", got-1, n)
		}
	}
}

// One that doesn't wait is made heavier, but doesn't come.
func TestBumpOfWhatDoesNotWait(t *testing.T) {
	r := rank.New(3)
	r.Bump(1)
	pops(t, r, 1)
	bumps(r, 1, 1, 3)
	weigh(t, r, 3, 0, 1)
	popsAll(t, r, 3, 2)
	bumps(r, 2, 3)
	popsAll(t, r)
	weigh(t, r, 3, 1, 2)
}

// One that waits comes ahead of others as soon as it is bumped, from wherever it stands.
func TestBumpFromEachPlace(t *testing.T) {
	for n := 1; n <= 20; n++ {
		for v := 1; v <= n; v++ {
			for often := range n + 2 {
				p := newPair(t, n)
				for u := 1; u <= n; u++ {
					for range n - u {
						p.bump(u)
					}
				}
				for range often {
					p.bump(v)
				}
				p.empties()
			}
		}
	}
}

// The first steps, by hand.
func TestFirstSteps(t *testing.T) {
	for k, want := range []uint64{1, 2, 3, 4, 5, 6, 7, 8, 9, 10, 11, 12, 13, 14, 15, 16, 18, 20, 22, 24, 26, 28, 30, 32, 35, 38, 41, 44, 47, 50, 54, 58, 62, 66, 71, 76, 81, 87, 93, 99, 106} {
		r := rank.New(1)
		for range k {
			r.Decay()
		}
		r.Bump(1)
		if w := r.Weight(1); w != want {
			t.Fatalf("behind %d times Decay: the step is %d, but it is %d", k, w, want)
		}
	}
}

// All steps from 1 on; they come to 2^59, and stay there.
func TestDecay(t *testing.T) {
	steps := stepsTo(greatest)
	if last := steps[len(steps)-1]; last != greatest {
		t.Fatalf("the greatest step is %d", last)
	}
	for k := range len(steps) + 40 {
		p := newPair(t, 2)
		p.decay(k)
		p.weighs()
		p.bump(2)
		p.weighs()
		if want := steps[min(k, len(steps)-1)]; p.r.Weight(2) != want {
			t.Fatalf("behind %d times Decay: the step is %d, but it is %d", k, p.r.Weight(2), want)
		}
		p.empties()
	}
}

func TestDecayVeryOften(t *testing.T) {
	r := rank.New(2)
	for range 100000 {
		r.Decay()
	}
	r.Bump(2)
	weigh(t, r, 0, greatest)
	r.Decay()
	r.Bump(1)
	weigh(t, r, greatest, greatest)
	popsAll(t, r, 1, 2)
}

// Decay changes no weight, and none that waits.
func TestDecayChangesNothingElse(t *testing.T) {
	p := newPair(t, 5)
	p.bump(4, 4, 2, 5, 5, 5)
	p.pop()
	for range 800 {
		p.decay(1)
		p.weighs()
	}
	for _, want := range []int{4, 2, 1, 3} {
		if v, _ := p.pop(); v != want {
			t.Fatalf("Pop: %d, but it is %d", v, want)
		}
	}
	p.isEmpty()
}

// A weight just below 2^60 stays.
func TestJustBelowTheGreatestWeight(t *testing.T) {
	r := weighted(t, stepsTo(greatest), greatest-1, greatest-2, 7)
	r.Bump(1)
	weigh(t, r, 1<<60-1, greatest-2, 7)
	r.Bump(2)
	weigh(t, r, 1<<60-1, 1<<60-2, 7)
	r.Bump(3)
	weigh(t, r, 1<<60-1, 1<<60-2, 1<<59+7)
	popsAll(t, r, 1, 2, 3)
}

// At 2^60 all weights are divided by 2^30, and so is the step.
func TestGreatestWeight(t *testing.T) {
	r := weighted(t, stepsTo(greatest), greatest, 1<<31, 1<<30-1)
	r.Bump(1)
	weigh(t, r, 1<<30, 2, 0)
	r.Bump(3)
	weigh(t, r, 1<<30, 2, 1<<29)
	r.Decay()
	r.Bump(3)
	weigh(t, r, 1<<30, 2, 1<<29+1<<29+1<<25+1)
	popsAll(t, r, 3, 1, 2)
}

// Above 2^60, up to the greatest weight that comes up.
func TestAboveTheGreatestWeight(t *testing.T) {
	for _, c := range []struct{ ahead, behind uint64 }{
		{greatest, 1 << 30}, {greatest + 1, 1 << 30}, {greatest + 1<<30 - 1, 1 << 30}, {greatest + 1<<30, 1<<30 + 1}, {1<<60 - 1, 1<<30 + 1<<29 - 1},
	} {
		r := weighted(t, stepsTo(greatest), 5, c.ahead)
		r.Bump(2)
		weigh(t, r, 0, c.behind)
		r.Bump(1)
		weigh(t, r, 1<<29, c.behind)
		popsAll(t, r, 2, 1)
	}
}

// All weights are divided, rounded down: those of variables that wait, and of those that don't.
func TestAllWeightsAreDivided(t *testing.T) {
	weights := []uint64{0, 1, 1<<29 - 1, 1 << 29, 1<<30 - 1, 1 << 30, 1<<30 + 1, 3<<30 - 1, 3 << 30, 3<<30 + 1<<29, 1<<59 - 1, 1 << 59, 1<<60 - 1}
	divided := []uint64{0, 0, 0, 0, 0, 1, 1, 2, 3, 3, 1<<29 - 1, 1 << 29, 1<<30 + 1<<29 - 1}
	for away := range len(weights) + 1 {
		r := weighted(t, stepsTo(greatest), weights...)
		for v := len(weights); v > len(weights)-away; v-- {
			pops(t, r, v)
		}
		r.Bump(len(weights))
		weigh(t, r, divided...)
		waiting := []int{13, 12, 11, 9, 10, 8, 6, 7, 1, 2, 3, 4, 5}
		var left []int
		for _, v := range waiting {
			if v <= len(weights)-away {
				left = append(left, v)
			}
		}
		popsAll(t, r, left...)
		weigh(t, r, divided...)
	}
}

// The step is divided, rounded down.
func TestStepIsDivided(t *testing.T) {
	for _, most := range []uint64{1 << 59, 1<<59 - 1, 1 << 58, 1 << 55, 1 << 50, 1 << 46, 1 << 43, 1 << 41} {
		steps := stepsTo(most)
		last := steps[len(steps)-1]
		r := weighted(t, steps, 1<<60-last, 0, 0)
		r.Bump(2)
		weigh(t, r, 1<<60-last, last, 0)
		r.Bump(1)
		weigh(t, r, 1<<30, last>>30, 0)
		r.Bump(3)
		weigh(t, r, 1<<30, last>>30, last>>30)
		r.Decay()
		r.Bump(3)
		weigh(t, r, 1<<30, last>>30, 2*(last>>30)+last>>30>>4+1)
	}
}

// A step below 2^30 comes to 1, not to 0. Just a weight of more than 2^30 such steps shows it.
func TestStepIsAtLeastOne(t *testing.T) {
	if testing.Short() {
		t.Skip("2^30 calls")
	}
	t.Parallel()
	steps := stepsTo(1<<30 - 1)
	last := steps[len(steps)-1]
	r := rank.New(2)
	pops(t, r, 1)
	for range len(steps) - 1 {
		r.Decay()
	}
	often := (1<<60 - 1) / last
	for range often {
		r.Bump(1)
	}
	weigh(t, r, often*last, 0)
	r.Bump(1)
	weigh(t, r, (often+1)*last>>30, 0)
	r.Bump(2)
	weigh(t, r, (often+1)*last>>30, 1)
	r.Decay()
	r.Bump(2)
	weigh(t, r, (often+1)*last>>30, 3)
}

// Weights that differed become the same: what comes next is the least number, right behind the call,
// whichever of them wait.
func TestWeightsThatBecomeTheSame(t *testing.T) {
	const some = 5 << 30
	sorted := []int{6, 1, 2, 3, 5, 7, 4, 8}
	for waits := range 1 << len(sorted) {
		r := weighted(t, stepsTo(greatest), some, some+3, some+1<<30-1, some-1, some+2, some+1<<30, some+1, 0, greatest)
		popsAll(t, r, 9, 6, 3, 2, 5, 7, 1, 4, 8)
		var list []int
		for _, v := range sorted {
			if waits>>(v-1)&1 == 1 {
				list = append(list, v)
				r.Put(v)
			}
		}
		r.Bump(9)
		weigh(t, r, 5, 5, 5, 4, 5, 6, 5, 0, 1<<30)
		popsAll(t, r, list...)
	}
}

// One that waits, and is bumped to 2^60 itself, may become as heavy as others.
func TestTheBumpedOneBecomesAsHeavyAsOthers(t *testing.T) {
	r := weighted(t, stepsTo(greatest), greatest-1, greatest, greatest+5, 3)
	r.Bump(1)
	weigh(t, r, 1<<60-1, greatest, greatest+5, 3)
	r.Bump(3)
	weigh(t, r, 1<<30-1, 1<<29, 1<<30, 0)
	popsAll(t, r, 3, 1, 2, 4)
	r = weighted(t, stepsTo(greatest), 1<<60-1, 1<<60-1<<30, greatest-1<<30, greatest-1)
	bumps(r, 3, 4)
	weigh(t, r, 1<<60-1, 1<<60-1<<30, 1<<60-1<<30, 1<<60-1)
	r.Grow()
	bumps(r, 5, 5)
	weigh(t, r, 1<<30-1, 1<<30-1, 1<<30-1, 1<<30-1, 1<<30)
	popsAll(t, r, 5, 1, 2, 3, 4)
}

// All is divided as often as a weight comes to 2^60.
func TestDividedOften(t *testing.T) {
	p := newPair(t, 6)
	for round := range 60 {
		p.decay(700)
		p.bump(1+round%6, 1+round%6, 1+round%5, 1+round%4)
		p.weighs()
		if round%7 == 0 {
			p.empties()
			p.put(1, 2, 3, 4, 5, 6)
		}
	}
	p.empties()
}
