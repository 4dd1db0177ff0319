package shape

import (
	"elenchus/api"
	"elenchus/pool"
)

// folding is rows that may be while they are folded.
type folding struct {
	pool     *pool.Pool
	terms    []api.Term // those of the pool, since it hands out all of them at once only
	standIns []int      // of the terms that were taken, by their numbers
}

func newFolding(syms []api.Sym) *folding {
	p, _ := pool.New(syms)
	return &folding{pool: p}
}

// take folds the next term.
func (f *folding) take(t api.Term) api.Errno {
	t.Args = f.standInsOf(t.Args)
	fold := f.way(t.Op)
	n, err := fold(t)
	f.standIns = append(f.standIns, n)
	return err
}

// standInsOf are the stand-ins of terms that were taken, in a list of their own.
func (f *folding) standInsOf(terms []int) []int {
	var out []int
	for _, t := range terms {
		out = append(out, f.standIns[t])
	}
	return out
}

// way is what an Op is folded by: it takes a term whose parts are stand-ins, and tells its own.
func (f *folding) way(op int) func(api.Term) (int, api.Errno) {
	switch op {
	case api.OpNot:
		return f.not
	case api.OpAnd:
		return f.and
	case api.OpOr:
		return f.or
	case api.OpIff:
		return f.iff
	case api.OpIte:
		return f.ite
	case api.OpEq:
		return f.equal
	case api.OpLe:
		return f.atMost
	case api.OpAdd:
		return f.sum
	case api.OpMul:
		return f.product
	}
	return f.lay
}

// lay finds or makes a term as it is.
func (f *folding) lay(t api.Term) (int, api.Errno) {
	n, err := f.pool.Make(t)
	if err == api.OK && n == len(f.terms) {
		f.terms = append(f.terms, t)
	}
	return n, err
}

// is asks whether a stand-in is of an Op.
func (f *folding) is(n, op int) bool {
	return f.terms[n].Op == op
}
