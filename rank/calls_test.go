package rank_test

import (
	"math"
	"testing"

	"elenchus/api"
	"elenchus/rank"
)

// The chapter's example.
func TestExample(t *testing.T) {
	r := rank.New(3)
	r.Bump(2)
	popsAll(t, r, 2, 1, 3)
}

// At first each weight is 0, and all wait, so that they come by their numbers.
func TestNew(t *testing.T) {
	for _, c := range []struct{ n, count int }{
		{math.MinInt, 0}, {math.MinInt + 1, 0}, {-api.MaxTerms, 0}, {-3, 0}, {-2, 0}, {-1, 0}, {0, 0}, {1, 1}, {2, 2}, {3, 3}, {64, 64}, {1000, 1000},
		{api.MaxTerms - 1, api.MaxTerms - 1}, {api.MaxTerms, api.MaxTerms}, {api.MaxTerms + 1, api.MaxTerms}, {2 * api.MaxTerms, api.MaxTerms}, {api.MaxFuel, api.MaxTerms}, {1 << 32, api.MaxTerms}, {1<<32 + 5, api.MaxTerms}, {math.MaxInt - 1, api.MaxTerms}, {math.MaxInt, api.MaxTerms},
	} {
		r := rank.New(c.n)
		if r == nil {
			t.Fatalf("New of %d: nil", c.n)
		}
		p := pair{t: t, r: r, o: newOther(c.count)}
		p.weighs()
		for v := 1; v <= c.count; v++ {
			if got, ok := r.Pop(); got != v || !ok {
				t.Fatalf("New of %d: Pop: %d, %v, but it is %d", c.n, got, ok, v)
			}
		}
		p.isEmpty()
		if v := r.Grow(); v != c.count+1 {
			t.Fatalf("New of %d has %d variables, not %d", c.n, v-1, c.count)
		}
	}
}

// The step is 1 at first, whatever the number of variables.
func TestFirstStep(t *testing.T) {
	for _, n := range []int{1, 2, 64, api.MaxTerms} {
		r := rank.New(n)
		r.Bump(n)
		if w := r.Weight(n); w != 1 {
			t.Fatalf("New of %d: the first step is %d", n, w)
		}
		pops(t, r, n)
	}
}

func TestGrow(t *testing.T) {
	for _, n := range []int{-7, 0, 1, 2, 3, 17, api.MaxTerms - 1, api.MaxTerms, math.MaxInt} {
		p := newPair(t, min(max(n, 0), api.MaxTerms))
		for range 20 {
			p.grow()
			p.weighs()
		}
		p.empties()
	}
}

func TestGrowOfNone(t *testing.T) {
	r := rank.New(0)
	popsAll(t, r)
	if v := r.Grow(); v != 1 {
		t.Fatalf("Grow of none: %d", v)
	}
	weigh(t, r, 0)
	popsAll(t, r, 1)
	r.Put(1)
	r.Bump(1)
	weigh(t, r, 1)
	popsAll(t, r, 1)
}

// The new one waits, alone, where all others were popped.
func TestGrowWhereNoneWaits(t *testing.T) {
	r := rank.New(3)
	popsAll(t, r, 1, 2, 3)
	if v := r.Grow(); v != 4 {
		t.Fatalf("Grow of three: %d", v)
	}
	popsAll(t, r, 4)
	if v, w := r.Grow(), r.Grow(); v != 5 || w != 6 {
		t.Fatalf("Grow of four, twice: %d, %d", v, w)
	}
	popsAll(t, r, 5, 6)
	for _, v := range []int{4, 1, 6} {
		r.Put(v)
	}
	popsAll(t, r, 1, 4, 6)
}

// The new one has the weight 0, whatever the others' weights and the step are.
func TestGrowBehindWeights(t *testing.T) {
	r := rank.New(2)
	r.Decay()
	bumps(r, 1, 2, 2)
	r.Decay()
	if v := r.Grow(); v != 3 {
		t.Fatalf("Grow of two: %d", v)
	}
	weigh(t, r, 2, 4, 0)
	pops(t, r, 2)
	bumps(r, 3)
	weigh(t, r, 2, 4, 3)
	if v := r.Grow(); v != 4 {
		t.Fatalf("Grow of three: %d", v)
	}
	weigh(t, r, 2, 4, 3, 0)
	popsAll(t, r, 3, 1, 4)
}

// Grow has no end at MaxTerms: each call is one more variable.
func TestGrowOften(t *testing.T) {
	p := newPair(t, 0)
	for range 2*api.MaxTerms + 3 {
		p.grow()
	}
	p.bump(2*api.MaxTerms+3, 2*api.MaxTerms+3, 7, api.MaxTerms+1)
	p.weighs()
	for _, want := range []int{2*api.MaxTerms + 3, 7, api.MaxTerms + 1, 1, 2, 3} {
		if v, _ := p.pop(); v != want {
			t.Fatalf("Pop: %d, but it is %d", v, want)
		}
	}
}

func TestPut(t *testing.T) {
	r := rank.New(4)
	r.Put(3)
	r.Put(3)
	pops(t, r, 1, 2)
	r.Put(1)
	r.Put(1)
	r.Put(4)
	popsAll(t, r, 1, 3, 4)
	for _, v := range []int{4, 2, 4, 2, 2} {
		r.Put(v)
	}
	popsAll(t, r, 2, 4)
	r.Put(3)
	popsAll(t, r, 3)
	weigh(t, r, 0, 0, 0, 0)
}

// What was bumped while it didn't wait comes by its weight once it is put.
func TestPutBehindBump(t *testing.T) {
	r := rank.New(4)
	popsAll(t, r, 1, 2, 3, 4)
	bumps(r, 3, 3, 4)
	popsAll(t, r)
	weigh(t, r, 0, 0, 2, 1)
	for v := range 4 {
		r.Put(v + 1)
	}
	popsAll(t, r, 3, 4, 1, 2)
}

func TestPutOfNoVariable(t *testing.T) {
	for _, n := range []int{0, 1, 2, 3, 8, api.MaxTerms} {
		p := newPair(t, n)
		p.put(noVariables(n)...)
		p.weighs()
		p.empties()
		p.put(noVariables(n)...)
		p.isEmpty()
		p.put(n)
		p.empties()
		if got := p.r.Grow(); got != n+1 {
			t.Fatalf("Put of no variable: %d variables of %d", got-1, n)
		}
	}
}

// Of each two weights the greater comes first, of the same the least number.
func TestPop(t *testing.T) {
	for weights := range 4 * 4 * 4 * 4 {
		for away := range 1 << 4 {
			p := newPair(t, 4)
			for v := range 4 {
				for range weights >> (2 * v) % 4 {
					p.bump(v + 1)
				}
			}
			p.decay(away % 3)
			back := []int{}
			for range 4 {
				v, _ := p.pop()
				back = append(back, v)
			}
			for v := range 4 {
				if away>>v&1 == 0 {
					p.put(back[v])
				}
			}
			p.weighs()
			p.empties()
		}
	}
}

func TestPopWhereNoneWaits(t *testing.T) {
	for _, n := range []int{math.MinInt, -1, 0, 1, 5} {
		r := rank.New(n)
		for range n {
			r.Pop()
		}
		for range 3 {
			popsAll(t, r)
			r.Decay()
			r.Bump(1)
		}
	}
}

// What is popped keeps its weight.
func TestWeightOfWhatIsPopped(t *testing.T) {
	r := rank.New(3)
	r.Decay()
	bumps(r, 2, 2, 3)
	weigh(t, r, 0, 4, 2)
	popsAll(t, r, 2, 3, 1)
	weigh(t, r, 0, 4, 2)
	bumps(r, 1, 3)
	weigh(t, r, 2, 4, 4)
	r.Put(3)
	weigh(t, r, 2, 4, 4)
}

func TestWeightOfNoVariable(t *testing.T) {
	for _, n := range []int{0, 1, 2, 3, 8, api.MaxTerms} {
		p := newPair(t, n)
		for v := range n {
			p.bump(v + 1)
		}
		p.weighs()
		p.empties()
		p.weighs()
	}
}

// A nil rank changes nothing, and answers 0, and false.
func TestNilRank(t *testing.T) {
	var r *rank.Rank
	for range 2 {
		if v := r.Grow(); v != 0 {
			t.Fatalf("Grow of a nil rank: %d", v)
		}
		for _, v := range append(noVariables(3), 1, 2, 3) {
			r.Bump(v)
			r.Put(v)
			r.Decay()
			if w := r.Weight(v); w != 0 {
				t.Fatalf("Weight of %d of a nil rank: %d", v, w)
			}
			if got, ok := r.Pop(); got != 0 || ok {
				t.Fatalf("Pop of a nil rank: %d, %v", got, ok)
			}
		}
	}
	x := rank.New(2)
	x.Bump(2)
	weigh(t, x, 0, 1)
	popsAll(t, x, 2, 1)
}

// A rank that New didn't make is one of none.
func TestRankThatNewDidNotMake(t *testing.T) {
	p := pair{t: t, r: new(rank.Rank), o: newOther(0)}
	p.isEmpty()
	p.bump(1, 0)
	p.put(1, 0)
	p.weighs()
	p.decay(1)
	p.grow()
	p.grow()
	p.bump(2)
	p.weighs()
	p.empties()
	q := pair{t: t, r: new(rank.Rank), o: newOther(0)}
	q.grow()
	q.bump(1)
	q.weighs()
	q.empties()
}
