package whole_test

import (
	"testing"

	"elenchus/api"
	"elenchus/whole"
)

func same(t *testing.T, law string, got, want api.Int) {
	t.Helper()
	if whole.Cmp(got, want) != 0 || whole.Print(got) != whole.Print(want) {
		t.Fatalf("%s: %s is not %s", law, whole.Print(got), whole.Print(want))
	}
}

func checkSums(t *testing.T, a, b, c api.Int) {
	t.Helper()
	same(t, "a + b = b + a", whole.Add(a, b), whole.Add(b, a))
	same(t, "(a + b) + c = a + (b + c)", whole.Add(whole.Add(a, b), c), whole.Add(a, whole.Add(b, c)))
	same(t, "a + 0 = a", whole.Add(a, whole.Of(0)), a)
	same(t, "a - a = 0", whole.Sub(a, a), whole.Of(0))
	same(t, "(a + b) - b = a", whole.Sub(whole.Add(a, b), b), a)
	same(t, "a - b = -(b - a)", whole.Sub(a, b), whole.Neg(whole.Sub(b, a)))
	same(t, "-(-a) = a", whole.Neg(whole.Neg(a)), a)
	if whole.Cmp(a, b) != whole.Sign(whole.Sub(a, b)) || whole.Cmp(a, b) != -whole.Cmp(b, a) {
		t.Fatalf("Cmp of %s and %s", whole.Print(a), whole.Print(b))
	}
}

func checkProducts(t *testing.T, a, b, c api.Int) {
	t.Helper()
	same(t, "a b = b a", whole.Mul(a, b), whole.Mul(b, a))
	same(t, "(a b) c = a (b c)", whole.Mul(whole.Mul(a, b), c), whole.Mul(a, whole.Mul(b, c)))
	same(t, "a 1 = a", whole.Mul(a, whole.Of(1)), a)
	same(t, "a 0 = 0", whole.Mul(a, whole.Of(0)), whole.Of(0))
	same(t, "a -1 = -a", whole.Mul(a, whole.Of(-1)), whole.Neg(a))
	same(t, "a (b + c) = a b + a c", whole.Mul(a, whole.Add(b, c)), whole.Add(whole.Mul(a, b), whole.Mul(a, c)))
}

func checkQuotients(t *testing.T, a, b, c api.Int) {
	t.Helper()
	if whole.Sign(b) == 0 {
		return
	}
	q, r, _ := whole.Div(a, b)
	same(t, "a = q b + r", whole.Add(whole.Mul(q, b), r), a)
	size := b
	if whole.Sign(b) < 0 {
		size = whole.Neg(b)
	}
	if whole.Sign(r) < 0 || whole.Cmp(r, size) >= 0 {
		t.Fatalf("the rest of %s by %s is %s", whole.Print(a), whole.Print(b), whole.Print(r))
	}
	q, r, _ = whole.Div(whole.Mul(a, b), b)
	same(t, "(a b) / b = a", q, a)
	same(t, "(a b) / b leaves 0", r, whole.Of(0))
	g := whole.Gcd(a, b)
	_, r, _ = whole.Div(a, g)
	same(t, "the greatest number goes into a", r, whole.Of(0))
	_, r, _ = whole.Div(b, g)
	same(t, "the greatest number goes into b", r, whole.Of(0))
	factor := whole.Mul(c, whole.Of(whole.Sign(c)))
	same(t, "Gcd of a c and b c", whole.Gcd(whole.Mul(a, c), whole.Mul(b, c)), whole.Mul(g, factor))
}

func TestLawsOfAnyNumbers(t *testing.T) {
	r := chance()
	for range 4000 {
		a, b, c := anyNumber(r, 5), anyNumber(r, 5), anyNumber(r, 5)
		checkSums(t, a, b, c)
		checkProducts(t, a, b, c)
		checkQuotients(t, a, b, c)
	}
}

func TestLawsOfEdges(t *testing.T) {
	all := edges()
	for i, a := range all {
		b, c := all[(i*7+3)%len(all)], all[(i*13+5)%len(all)]
		checkSums(t, a, b, c)
		checkProducts(t, a, b, c)
		checkQuotients(t, a, b, c)
		checkQuotients(t, b, a, c)
	}
}

func TestLawsOfManyWords(t *testing.T) {
	r := chance()
	for range 5 {
		a, b, c := anyNumber(r, 120), anyNumber(r, 80), anyNumber(r, 60)
		checkSums(t, a, b, c)
		checkProducts(t, a, b, c)
		checkQuotients(t, a, b, c)
	}
}
