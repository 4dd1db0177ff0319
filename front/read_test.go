package front_test

import (
	"slices"
	"strconv"
	"strings"
	"testing"

	"elenchus/api"
	"elenchus/front"
)

// manySymbols are as many as are asked for, without parts, by turns of Bool and of Whole.
func manySymbols(count int) []api.Sym {
	var out []api.Sym
	for i := range count {
		out = append(out, named("s"+strconv.Itoa(i), 0, 1+i%2))
	}
	return out
}

func TestRead(t *testing.T) {
	checkRead(t, few(), "(< x 3)", "x, 3, 1, add 0 2, le 3 1", 4)
	checkRead(t, few(), "p q p (and p q) (and q p) q", "p, q, and 0 1, and 1 0", 0, 1, 0, 2, 3, 1)
	checkRead(t, few(), "(< x 3) (< x 3) x (- 3)", "x, 3, 1, add 0 2, le 3 1, mul -1 1", 4, 4, 0, 5)
	checkRead(t, few(), "(let ((a p)) a)x(not p)1(f|x|)", "p, x, not 0, 1, f 1", 0, 1, 2, 3, 4)
	checkRead(t, nil, "1 true (= 1 2)", "1, true, 2, eq 0 2", 0, 1, 3)
}

func TestReadOfNoExpressions(t *testing.T) {
	for _, syms := range [][]api.Sym{nil, {}, few(), manySymbols(api.MaxSyms)} {
		for _, text := range []string{"", " ", "\n\t\r ", "; nothing", ";\n ; (and\n", strings.Repeat(" ", api.MaxText)} {
			checkRead(t, syms, text, "")
		}
	}
}

func TestReadOfManySymbols(t *testing.T) {
	syms := manySymbols(api.MaxSyms)
	checkRead(t, syms, "s255 s0 (not s254) (+ s1 s255)", "s255, s0, s254, not 2, s1, add 4 0", 0, 1, 3, 5)
}

// What is wrong with the symbols counts ahead of what is wrong with the text, at 0.
func TestReadOfSymbolsThatMayNotBe(t *testing.T) {
	for _, text := range []string{"", "p", "nosuch", "(", "\x00", ")", strings.Repeat(" ", api.MaxText+1)} {
		checkNotRead(t, manySymbols(api.MaxSyms+1), text, 0, api.ErrLong)
		checkNotRead(t, append(manySymbols(api.MaxSyms), api.Sym{}), text, 0, api.ErrLong)
		checkNotRead(t, []api.Sym{{}}, text, 0, api.ErrForm)
		checkNotRead(t, []api.Sym{named("p", 0, 3)}, text, 0, api.ErrForm)
		checkNotRead(t, []api.Sym{named("p", 0, 0)}, text, 0, api.ErrForm)
		checkNotRead(t, []api.Sym{named("p", -1, 1)}, text, 0, api.ErrForm)
		checkNotRead(t, []api.Sym{named("p", 5, 1)}, text, 0, api.ErrForm)
		checkNotRead(t, []api.Sym{named("", 0, 1)}, text, 0, api.ErrForm)
		checkNotRead(t, []api.Sym{named("p", 0, 1), named("p", 0, 1), named("q", 9, 1)}, text, 0, api.ErrForm)
		checkNotRead(t, []api.Sym{named("p", 0, 1), named("q", 0, 1), named("p", 1, 2)}, text, 0, api.ErrName)
	}
}

// What layer 3 finds counts ahead of what is wrong with expressions that stand ahead of it.
func TestReadOfTextsThatMayNotBe(t *testing.T) {
	for _, begin := range []string{"", "p ", "nosuch () ", "(not x)\n", "; )\n", "(let ()) "} {
		wrong(t, begin+"§)", api.ErrClose)
		wrong(t, begin+"§(", api.ErrOpen)
		wrong(t, begin+"(and §(or p q ", api.ErrOpen)
		wrong(t, begin+"(and §|p q) ", api.ErrOpen)
		wrong(t, begin+"§{", api.ErrLex)
		wrong(t, begin+"(and p §01)", api.ErrLex)
		wrong(t, begin+"(and p §1x)", api.ErrLex)
		wrong(t, begin+"§: p", api.ErrLex)
		wrong(t, begin+"(and p |q§\\|)", api.ErrLex)
		wrong(t, begin+strings.Repeat("(", api.MaxDeep)+"§("+strings.Repeat(")", api.MaxDeep+1), api.ErrDeep)
		checkNotRead(t, few(), begin+"p"+strings.Repeat(" ", api.MaxText), 0, api.ErrLong)
	}
}

// Expressions may be as deep, and texts as long, as the limits allow.
func TestReadAtTheLimits(t *testing.T) {
	deep := "p" + strings.Repeat(")", api.MaxDeep)
	r, numbers, at, err := readFew(strings.Repeat("(not ", api.MaxDeep) + deep)
	if err != api.OK || len(r.Terms) != api.MaxDeep+1 || !slices.Equal(numbers, []int{api.MaxDeep}) {
		t.Fatalf("nots within one another: %v of %s, error %d at %d", numbers, show(r), err, at)
	}
	makes(t, strings.Repeat("(and ", api.MaxDeep)+deep, "p")
	wrong(t, strings.Repeat("(not ", api.MaxDeep-1)+"(not §nosuch"+strings.Repeat(")", api.MaxDeep), api.ErrName)
	wrong(t, strings.Repeat("(and ", api.MaxDeep-1)+"§()"+strings.Repeat(")", api.MaxDeep-1), api.ErrForm)
	wrong(t, strings.Repeat("(not ", api.MaxDeep)+"§(not "+deep+")", api.ErrDeep)
	numbers = make([]int, api.MaxText/2)
	checkRead(t, few(), strings.Repeat("p ", api.MaxText/2), "p", numbers...)
	checkRead(t, few(), "p"+strings.Repeat(" ", api.MaxText-1), "p", 0)
	long := strings.Repeat("n", api.MaxText)
	checkRead(t, []api.Sym{named(long, 0, api.Bool)}, long, long, 0)
	checkNotRead(t, few(), long, 0, api.ErrName)
}

// As many terms as may be can be read, and what is there behind them.
func TestReadOfManyTerms(t *testing.T) {
	var text, terms []string
	var numbers []int
	for i := range api.MaxTerms {
		text = append(text, strconv.Itoa(i))
		numbers = append(numbers, i)
	}
	terms = slices.Clone(text)
	checkRead(t, few(), strings.Join(text, " "), strings.Join(terms, ", "), numbers...)
	checkRead(t, few(), strings.Join(text, " ")+" 7 4095 (* 7 2)", strings.Join(terms, ", "), append(numbers, 7, 4095, 14)...)
	wrong(t, strings.Join(text, " ")+" 7 §4096 7", api.ErrLong)
	wrong(t, strings.Join(text, " ")+" 7 §x nosuch", api.ErrLong)
	wrong(t, strings.Join(text, " ")+" (* 7 2) §(- 7) nosuch", api.ErrLong)
	wrong(t, strings.Join(text, " ")+" (+ 7 §p) ()", api.ErrLong)
}

// Calls don't depend on one another.
func TestReadsAreApart(t *testing.T) {
	for range 3 {
		checkRead(t, few(), "(let ((a x)) a) p", "x, p", 0, 1)
		wrong(t, "§a", api.ErrName)
		wrong(t, "p (and p (let ((a p)) (and a §nosuch)))", api.ErrName)
		checkRead(t, []api.Sym{named("a", 0, api.Bool)}, "(and a)", "a", 0)
		if _, _, _, err := front.Read(nil, "p"); err != api.ErrName {
			t.Fatalf("Read of p without symbols: error %d", err)
		}
	}
}
