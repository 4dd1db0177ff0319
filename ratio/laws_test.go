package ratio_test

import (
	"testing"

	"elenchus/api"
	"elenchus/ratio"
	"elenchus/whole"
)

func same(t *testing.T, law string, got, want api.Rat) {
	t.Helper()
	if ratio.Cmp(got, want) != 0 {
		t.Fatalf("%s: %v is not %v", law, meant(got), meant(want))
	}
}

func checkSums(t *testing.T, a, b, c api.Rat) {
	t.Helper()
	zero := api.Rat{}
	same(t, "a + b = b + a", ratio.Add(a, b), ratio.Add(b, a))
	same(t, "(a + b) + c = a + (b + c)", ratio.Add(ratio.Add(a, b), c), ratio.Add(a, ratio.Add(b, c)))
	same(t, "a + 0 = a", ratio.Add(a, zero), a)
	same(t, "a - a = 0", ratio.Sub(a, a), zero)
	same(t, "(a + b) - b = a", ratio.Sub(ratio.Add(a, b), b), a)
	same(t, "0 - (a - b) = b - a", ratio.Sub(zero, ratio.Sub(a, b)), ratio.Sub(b, a))
	if ratio.Cmp(a, b) != ratio.Sign(ratio.Sub(a, b)) || ratio.Cmp(a, b) != -ratio.Cmp(b, a) {
		t.Fatalf("Cmp of %v and %v", meant(a), meant(b))
	}
}

func checkProducts(t *testing.T, a, b, c api.Rat) {
	t.Helper()
	one := ratio.Of(whole.Of(1))
	same(t, "a b = b a", ratio.Mul(a, b), ratio.Mul(b, a))
	same(t, "(a b) c = a (b c)", ratio.Mul(ratio.Mul(a, b), c), ratio.Mul(a, ratio.Mul(b, c)))
	same(t, "a 1 = a", ratio.Mul(a, one), a)
	same(t, "a (b + c) = a b + a c", ratio.Mul(a, ratio.Add(b, c)), ratio.Add(ratio.Mul(a, b), ratio.Mul(a, c)))
	if ratio.Sign(ratio.Mul(a, b)) != ratio.Sign(a)*ratio.Sign(b) {
		t.Fatalf("the sign of %v times %v", meant(a), meant(b))
	}
}

func checkQuotients(t *testing.T, a, b, c api.Rat) {
	t.Helper()
	if ratio.Sign(b) == 0 {
		return
	}
	q, _ := ratio.Div(a, b)
	same(t, "(a / b) b = a", ratio.Mul(q, b), a)
	q, _ = ratio.Div(ratio.Mul(a, b), b)
	same(t, "(a b) / b = a", q, a)
	left, _ := ratio.Div(ratio.Add(a, c), b)
	x, _ := ratio.Div(a, b)
	y, _ := ratio.Div(c, b)
	same(t, "(a + c) / b = a / b + c / b", left, ratio.Add(x, y))
	own, _ := ratio.New(b.Num, whole.Of(1))
	same(t, "b by 1 = b", own, ratio.Of(b.Num))
}

func checkRounded(t *testing.T, a api.Rat) {
	t.Helper()
	below, above := ratio.Of(ratio.Floor(a)), ratio.Of(ratio.Ceil(a))
	one := ratio.Of(whole.Of(1))
	if ratio.Cmp(below, a) > 0 || ratio.Cmp(ratio.Add(below, one), a) <= 0 {
		t.Fatalf("Floor of %v", meant(a))
	}
	if ratio.Cmp(above, a) < 0 || ratio.Cmp(ratio.Sub(above, one), a) >= 0 {
		t.Fatalf("Ceil of %v", meant(a))
	}
	if ratio.Is(a) != (ratio.Cmp(below, above) == 0) || !ratio.Is(below) {
		t.Fatalf("Is of %v", meant(a))
	}
}

func checkLaws(t *testing.T, a, b, c api.Rat) {
	t.Helper()
	checkSums(t, a, b, c)
	checkProducts(t, a, b, c)
	checkQuotients(t, a, b, c)
	checkRounded(t, a)
}

func TestLawsOfAnyNumbers(t *testing.T) {
	r := chance()
	for range 2000 {
		checkLaws(t, anyRat(r, 3), anyRat(r, 3), anyRat(r, 3))
	}
}

func TestLawsOfEdges(t *testing.T) {
	all := edges()
	for i, a := range all {
		checkLaws(t, a, all[(i*7+3)%len(all)], all[(i*13+5)%len(all)])
	}
}

func TestLawsOfManyWords(t *testing.T) {
	r := chance()
	for range 3 {
		checkLaws(t, anyRat(r, 40), anyRat(r, 30), anyRat(r, 20))
	}
}
