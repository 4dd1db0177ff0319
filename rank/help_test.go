package rank_test

import (
	"math"
	"testing"

	"elenchus/rank"
)

// other is a rank that is a plain list: what comes next is searched from its beginning.
type other struct {
	weights []uint64 // by variable less 1
	waits   []bool
	step    uint64
}

func newOther(n int) *other {
	o := &other{step: 1}
	for range n {
		o.grow()
	}
	return o
}

func (o *other) grow() int {
	o.weights = append(o.weights, 0)
	o.waits = append(o.waits, true)
	return len(o.weights)
}

func (o *other) has(v int) bool {
	return 0 < v && v <= len(o.weights)
}

func (o *other) bump(v int) {
	if !o.has(v) {
		return
	}
	o.weights[v-1] += o.step
	if o.weights[v-1] < 1<<60 {
		return
	}
	for i := range o.weights {
		o.weights[i] >>= 30
	}
	if o.step >>= 30; o.step == 0 {
		o.step = 1
	}
}

func (o *other) decay() {
	if o.step += o.step>>4 + 1; o.step > 1<<59 {
		o.step = 1 << 59
	}
}

func (o *other) put(v int) {
	if o.has(v) {
		o.waits[v-1] = true
	}
}

// next is who comes next, or 0.
func (o *other) next() int {
	found := 0
	for i, w := range o.weights {
		if o.waits[i] && (found == 0 || w > o.weights[found-1]) {
			found = i + 1
		}
	}
	return found
}

func (o *other) pop() (int, bool) {
	v := o.next()
	if v > 0 {
		o.waits[v-1] = false
	}
	return v, v > 0
}

// pair is a rank and its list, to which all is told alike.
type pair struct {
	t *testing.T
	r *rank.Rank
	o *other
}

func newPair(t *testing.T, n int) pair {
	t.Helper()
	p := pair{t: t, r: rank.New(n), o: newOther(n)}
	p.weighs()
	return p
}

func (p pair) grow() {
	p.t.Helper()
	if got, want := p.r.Grow(), p.o.grow(); got != want {
		p.t.Fatalf("Grow: %d, but it is %d", got, want)
	}
}

func (p pair) bump(list ...int) {
	for _, v := range list {
		p.r.Bump(v)
		p.o.bump(v)
	}
}

func (p pair) decay(often int) {
	for range often {
		p.r.Decay()
		p.o.decay()
	}
}

func (p pair) put(list ...int) {
	for _, v := range list {
		p.r.Put(v)
		p.o.put(v)
	}
}

// pop holds what is popped against the list's answer, and tells it.
func (p pair) pop() (int, bool) {
	p.t.Helper()
	v, ok := p.r.Pop()
	if want, is := p.o.pop(); v != want || ok != is {
		p.t.Fatalf("Pop: %d, %v, but it is %d, %v", v, ok, want, is)
	}
	return v, ok
}

// weighs fails unless all weights are the list's, and those of no variables are 0.
func (p pair) weighs() {
	p.t.Helper()
	for i, w := range p.o.weights {
		if got := p.r.Weight(i + 1); got != w {
			p.t.Fatalf("Weight of %d: %d, but it is %d", i+1, got, w)
		}
	}
	for _, v := range noVariables(len(p.o.weights)) {
		if got := p.r.Weight(v); got != 0 {
			p.t.Fatalf("Weight of %d, which is no variable: %d", v, got)
		}
	}
}

// empties fails unless all that wait are popped, each once, of falling weights, of one weight of rising
// numbers, and none behind them.
func (p pair) empties() {
	p.t.Helper()
	count := 0
	for _, waits := range p.o.waits {
		if waits {
			count++
		}
	}
	seen := make([]bool, len(p.o.waits))
	for last := 0; count > 0; count-- {
		v, ok := p.pop()
		switch {
		case !ok || seen[v-1]:
			p.t.Fatalf("Pop: %d, %v, but %d wait, and it was popped already: %v", v, ok, count, ok)
		case last > 0 && p.r.Weight(v) > p.r.Weight(last):
			p.t.Fatalf("%d of the weight %d is popped behind %d of %d", v, p.r.Weight(v), last, p.r.Weight(last))
		case last > v && p.r.Weight(v) == p.r.Weight(last):
			p.t.Fatalf("%d is popped behind %d, both of the weight %d", v, last, p.r.Weight(v))
		}
		seen[v-1] = true
		last = v
	}
	p.isEmpty()
}

func (p pair) isEmpty() {
	p.t.Helper()
	for range 2 {
		if v, ok := p.r.Pop(); v != 0 || ok {
			p.t.Fatalf("Pop, where none waits: %d, %v", v, ok)
		}
	}
}

// noVariables are numbers that are none of variables 1 to n.
func noVariables(n int) []int {
	return []int{0, -1, -2, -n, -n - 1, n + 1, n + 2, n + 64, 1 << 32, -1 << 32, math.MaxInt, math.MinInt, math.MinInt + 1}
}

// pops fails unless just these are popped, one behind the other.
func pops(t *testing.T, r *rank.Rank, list ...int) {
	t.Helper()
	for i, want := range list {
		if v, ok := r.Pop(); v != want || !ok {
			t.Fatalf("Pop number %d: %d, %v, but it is %d", i, v, ok, want)
		}
	}
}

// popsAll fails unless just these are popped, one behind the other, and none behind them.
func popsAll(t *testing.T, r *rank.Rank, list ...int) {
	t.Helper()
	pops(t, r, list...)
	if v, ok := r.Pop(); v != 0 || ok {
		t.Fatalf("Pop, where none waits: %d, %v", v, ok)
	}
}

// weigh fails unless variables 1 and so on have just these weights.
func weigh(t *testing.T, r *rank.Rank, list ...uint64) {
	t.Helper()
	for i, want := range list {
		if got := r.Weight(i + 1); got != want {
			t.Fatalf("Weight of %d: %d, but it is %d", i+1, got, want)
		}
	}
	if got := r.Weight(len(list) + 1); got != 0 {
		t.Fatalf("Weight of %d, which is no variable: %d", len(list)+1, got)
	}
}

// bumps bumps each of a list.
func bumps(r *rank.Rank, list ...int) {
	for _, v := range list {
		r.Bump(v)
	}
}

// stepsTo are the steps of a rank that wasn't bumped, from 1 on, up to the last that is at most so much.
func stepsTo(most uint64) []uint64 {
	list := []uint64{1}
	for {
		s := list[len(list)-1]
		if s < 1<<59 {
			s = min(s+s/16+1, 1<<59)
		}
		if s == list[len(list)-1] || s > most {
			return list
		}
		list = append(list, s)
	}
}

// weighted is a rank whose variables have just these weights, each below 2^60, and whose step is the last
// of a list of stepsTo: each weight is a sum of such steps.
func weighted(t *testing.T, steps []uint64, weights ...uint64) *rank.Rank {
	t.Helper()
	times := make([][]uint64, len(weights))
	for v, rest := range weights {
		times[v] = make([]uint64, len(steps))
		for k := len(steps) - 1; k >= 0; k-- {
			times[v][k] = rest / steps[k]
			rest %= steps[k]
		}
	}
	r := rank.New(len(weights))
	for k := range steps {
		if k > 0 {
			r.Decay()
		}
		for v := range weights {
			for range times[v][k] {
				r.Bump(v + 1)
			}
		}
	}
	weigh(t, r, weights...)
	return r
}
