package shape

import (
	"elenchus/api"
	"elenchus/whole"
)

// number is a Num.
func (f *folding) number(v api.Int) (int, api.Errno) {
	return f.lay(api.Term{Op: api.OpNum, Num: v})
}

func (f *folding) equal(t api.Term) (int, api.Errno) {
	return f.compared(t, func(order int) bool { return order == 0 })
}

func (f *folding) atMost(t api.Term) (int, api.Errno) {
	return f.compared(t, func(order int) bool { return order <= 0 })
}

// compared folds a comparison that holds of things that are the same, and of numbers just if it holds of their order.
func (f *folding) compared(t api.Term, holds func(int) bool) (int, api.Errno) {
	one, other := t.Args[0], t.Args[1]
	switch {
	case one == other:
		return f.truth(true)
	case f.is(one, api.OpNum) && f.is(other, api.OpNum):
		return f.truth(holds(whole.Cmp(f.terms[one].Num, f.terms[other].Num)))
	}
	return f.lay(t)
}

func (f *folding) sum(t api.Term) (int, api.Errno) {
	var left []int
	total := whole.Of(0)
	for _, part := range t.Args {
		if f.is(part, api.OpNum) {
			total = whole.Add(total, f.terms[part].Num)
		} else {
			left = append(left, part)
		}
	}
	if len(left) == 0 || whole.Sign(total) != 0 {
		n, err := f.number(total)
		if err != api.OK {
			return 0, err
		}
		left = append(left, n)
	}
	if len(left) == 1 {
		return left[0], api.OK
	}
	return f.lay(api.Term{Op: api.OpAdd, Args: left})
}

func (f *folding) product(t api.Term) (int, api.Errno) {
	part := f.terms[t.Args[0]]
	switch {
	case part.Op == api.OpNum:
		return f.number(whole.Mul(t.Num, part.Num))
	case part.Op == api.OpMul:
		return f.product(api.Term{Op: api.OpMul, Num: whole.Mul(t.Num, part.Num), Args: part.Args})
	case whole.Sign(t.Num) == 0:
		return f.number(t.Num)
	case whole.Cmp(t.Num, whole.Of(1)) == 0:
		return t.Args[0], api.OK
	}
	return f.lay(t)
}
