package pool

import (
	"strconv"
	"strings"

	"elenchus/api"
	"elenchus/whole"
)

// numbers tell what has which number, by texts.
type numbers map[string]int

func (l numbers) has(text string) bool {
	_, ok := l[text]
	return ok
}

// with puts one more in. It makes the map where there is none yet, so that a pool that
// New didn't make is one without symbols, and none of its calls panics.
func (l numbers) with(text string, n int) numbers {
	if l == nil {
		l = numbers{}
	}
	l[text] = n
	return l
}

// textOf is a text of a term's fields: just terms that are the same have the same.
// Num is as numbers are told. How many words it has parts these from the parts ahead.
func textOf(t api.Term) string {
	fields := append([]int{t.Op, t.Sym, whole.Sign(t.Num), len(t.Num.Abs)}, t.Args...)
	var out []byte
	for _, n := range fields {
		out = strconv.AppendInt(append(out, ' '), int64(n), 10)
	}
	for _, w := range t.Num.Abs {
		out = strconv.AppendUint(append(out, ' '), w, 10)
	}
	return string(out)
}

// ownSym is a symbol that shares no memory with the one that is given.
func ownSym(s api.Sym) api.Sym {
	s.Name = strings.Clone(s.Name)
	return s
}

// ownTerm is a term that shares no memory with the one that is given, Num as numbers are told.
func ownTerm(t api.Term) api.Term {
	t.Args = append([]int(nil), t.Args...)
	t.Num = whole.Norm(t.Num)
	return t
}

// copied is a list of its own.
func copied[T any](items []T, own func(T) T) []T {
	out := make([]T, 0, len(items))
	for _, item := range items {
		out = append(out, own(item))
	}
	return out
}
