package rank_test

import (
	"math/rand/v2"
	"testing"

	"elenchus/rank"
)

// chance is the same in each run.
func chance() *rand.Rand {
	return rand.New(rand.NewPCG(12, 29))
}

// anyVariable is mostly one of 1 to n.
func anyVariable(r *rand.Rand, n int) int {
	if n == 0 || r.IntN(20) == 0 {
		list := noVariables(n)
		return list[r.IntN(len(list))]
	}
	return 1 + r.IntN(n)
}

// act is any act; often says how many times a Decay is done at most, so that weights come to
// 2^60 from time to time.
func (p pair) act(r *rand.Rand, often int) {
	p.t.Helper()
	n := len(p.o.weights)
	switch r.IntN(12) {
	case 0, 1, 2, 3:
		p.bump(anyVariable(r, n))
	case 4, 5:
		p.put(anyVariable(r, n))
	case 6, 7, 8:
		p.pop()
	case 9, 10:
		p.decay(r.IntN(often + 1))
	default:
		if n < 40 && r.IntN(8) == 0 {
			p.grow()
		}
	}
}

// All answers are a plain list's, whatever is done, and what is popped at last is all that waited (P12.2).
func TestAnyActs(t *testing.T) {
	r := chance()
	for round := range 3000 {
		p := newPair(t, r.IntN(12))
		often := []int{1, 3, 40, 400}[round%4]
		for range r.IntN(150) {
			p.act(r, often)
			p.weighs()
		}
		p.empties()
		p.weighs()
	}
}

// So many variables that what waits stands in a deep heap.
func TestAnyActsOfMany(t *testing.T) {
	r := chance()
	for round := range 40 {
		n := 100 + r.IntN(400)
		p := newPair(t, n)
		for range 2 * n {
			p.bump(anyVariable(r, n))
			p.decay(r.IntN(3) * (round % 2))
			if r.IntN(3) == 0 {
				p.pop()
			}
			if r.IntN(5) == 0 {
				p.put(anyVariable(r, n))
			}
		}
		p.weighs()
		p.empties()
		for range n / 2 {
			p.put(anyVariable(r, n))
		}
		p.empties()
	}
}

// Each row of some acts, of a rank of two.
func TestAllShortActs(t *testing.T) {
	const kinds, length = 8, 6
	rows := 1
	for range length {
		rows *= kinds
	}
	for row := range rows {
		p := pair{t: t, r: rank.New(2), o: newOther(2)}
		for rest := row; rest > 0; rest /= kinds {
			switch rest % kinds {
			case 1:
				p.bump(1)
			case 2:
				p.bump(2)
			case 3:
				p.decay(1)
			case 4:
				p.put(1)
			case 5:
				p.put(2)
			case 6:
				p.pop()
			case 7:
				p.grow()
				p.bump(3)
			}
		}
		for i, w := range p.o.weights {
			if got := p.r.Weight(i + 1); got != w {
				t.Fatalf("row %d: Weight of %d: %d, but it is %d", row, i+1, got, w)
			}
		}
		p.empties()
	}
}

// What a rank answers doesn't depend on another one: each is held against a list of its own.
func TestRanksDoNotDependOnOneAnother(t *testing.T) {
	r := chance()
	for range 300 {
		n := r.IntN(6)
		list := []pair{newPair(t, n), newPair(t, n), newPair(t, r.IntN(6))}
		for range 200 {
			list[r.IntN(len(list))].act(r, 400)
			for _, p := range list {
				p.weighs()
			}
		}
		for _, p := range list {
			p.empties()
		}
	}
}

// One rank's weights are divided, one's step grows, one is emptied, one grows: the last one stays as it was.
func TestOtherRanksStay(t *testing.T) {
	heavy, decayed, emptied, grown, still := rank.New(3), rank.New(3), rank.New(3), rank.New(3), rank.New(3)
	bumps(still, 3, 3, 2)
	for range 1000 {
		heavy.Decay()
		decayed.Decay()
	}
	bumps(heavy, 1, 1)
	popsAll(t, emptied, 1, 2, 3)
	if v := grown.Grow(); v != 4 {
		t.Fatalf("Grow of three: %d", v)
	}
	weigh(t, still, 0, 1, 2)
	weigh(t, heavy, 1<<30, 0, 0)
	still.Bump(1)
	weigh(t, still, 1, 1, 2)
	popsAll(t, still, 3, 1, 2)
	popsAll(t, grown, 1, 2, 3, 4)
	popsAll(t, decayed, 1, 2, 3)
	popsAll(t, heavy, 1, 2, 3)
	popsAll(t, emptied)
}

// The same acts have the same answers, however often they are done.
func TestSameActsHaveSameAnswers(t *testing.T) {
	var first []int
	for round := range 20 {
		r := chance()
		p := newPair(t, 30)
		var got []int
		for range 3000 {
			p.bump(anyVariable(r, 30))
			p.decay(r.IntN(60))
			p.put(anyVariable(r, 30))
			v, _ := p.pop()
			got = append(got, v, int(p.r.Weight(v)))
		}
		if round == 0 {
			first = got
		}
		for i, v := range got {
			if v != first[i] {
				t.Fatalf("answer number %d of the same acts: %d, but it was %d", i, v, first[i])
			}
		}
	}
}
