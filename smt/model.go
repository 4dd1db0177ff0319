package smt

import (
	"elenchus/api"
	"elenchus/linear"
	"elenchus/tables"
	"elenchus/whole"
)

// model is what symbols tell by truths and numbers. There is none, where one tells unlike things of the same
// numbers: then the solver learns of the first two terms that do so that they don't. Others are left, since
// what they are asked of may hang on these.
func (s *search) model(truths []bool, numbers []api.Int) (api.Model, bool) {
	s.settle(truths, numbers)
	apps, terms := s.apps(truths, numbers)
	m, e := tables.Build(s.rows.Syms, apps)
	if e != api.OK {
		i, k, _ := tables.Clash(apps)
		s.agree(terms[i], terms[k])
		return api.Model{}, false
	}
	return m, true
}

// settle gives each OpIte of Whole the number of the part that it is: layer 15 knows just of those that rows have.
func (s *search) settle(truths []bool, numbers []api.Int) {
	for _, n := range s.needed {
		t := s.rows.Terms[n]
		if t.Op != api.OpIte || !s.isOfWhole(n) {
			continue
		}
		part := t.Args[2]
		if holds(s.lits[t.Args[0]], truths) {
			part = t.Args[1]
		}
		numbers[n] = s.value(part, numbers)
	}
}

// value is that of a term of Whole.
func (s *search) value(t int, numbers []api.Int) api.Int {
	out, _ := linear.Value(s.sums[t], numbers)
	return out
}

// apps are what symbols tell, and the terms by which they do. What no row has is 0: if it clashes, a row
// comes to have it.
func (s *search) apps(truths []bool, numbers []api.Int) ([]api.App, []int) {
	var apps []api.App
	var terms []int
	for _, n := range s.needed {
		t := s.rows.Terms[n]
		if t.Op != api.OpApp {
			continue
		}
		a := api.App{Sym: t.Sym, Val: numbers[n]}
		if !s.isOfWhole(n) && holds(s.lits[n], truths) {
			a.Val = whole.Of(1)
		}
		for _, part := range t.Args {
			a.Args = append(a.Args, s.value(part, numbers))
		}
		apps, terms = append(apps, a), append(terms, n)
	}
	return apps, terms
}

// agree makes the solver learn that two terms of a symbol are worth the same, if what they are asked of is.
func (s *search) agree(a, b int) {
	var unlike []int
	for i, part := range s.rows.Terms[a].Args {
		for _, end := range s.ends(part, s.rows.Terms[b].Args[i]) {
			unlike = append(unlike, -end)
		}
	}
	alike := s.alike(a, b)
	s.hand()
	for _, end := range alike {
		s.learn(append(end, unlike...)...)
	}
}

// alike are clauses by which two terms of one sort are worth the same, one for each end.
func (s *search) alike(a, b int) [2][]int {
	if s.isOfWhole(a) {
		ends := s.ends(a, b)
		return [2][]int{{ends[0]}, {ends[1]}}
	}
	return [2][]int{{-s.lits[a], s.lits[b]}, {s.lits[a], -s.lits[b]}}
}

// ends are literals of: a term is at most another one, and at least.
func (s *search) ends(a, b int) [2]int {
	var out [2]int
	for i, l := range [2]api.Linear{s.less(a, b), s.less(b, a)} {
		out[i], _ = s.coder.Most(l)
	}
	return out
}

// less is a term's sum, less another one's.
func (s *search) less(a, b int) api.Linear {
	return linear.Add(s.sums[a], linear.Scale(s.sums[b], whole.Of(-1)))
}
