package front_test

import (
	"strings"
	"testing"

	"elenchus/api"
)

func TestNot(t *testing.T) {
	makes(t, "(not p)", "p, not 0")
	makes(t, "(not (not p))", "p, not 0, not 1")
	makes(t, "(not true)", "true, not 0")
}

func TestAndOr(t *testing.T) {
	for _, op := range []string{"and", "or"} {
		makes(t, "("+op+" p)", "p")
		makes(t, "("+op+" ("+op+" p))", "p")
		makes(t, "("+op+" p q)", "p, q, "+op+" 0 1")
		makes(t, "("+op+" p p)", "p, "+op+" 0 0")
		makes(t, "("+op+" p q r)", "p, q, r, "+op+" 0 1 2")
		makes(t, "("+op+" q true q p)", "q, true, p, "+op+" 0 1 0 2")
		makes(t, "("+op+" p ("+op+" q r))", "p, q, r, "+op+" 1 2, "+op+" 0 3")
		makes(t, listed(op, api.MaxArgs, "p", "q"), "p, q, "+op+strings.Repeat(" 0 1", api.MaxArgs/2))
	}
}

func TestImplies(t *testing.T) {
	makes(t, "(=> p q)", "p, q, not 0, or 2 1")
	makes(t, "(=> p p)", "p, not 0, or 1 0")
	makes(t, "(=> p q r)", "p, q, r, not 0, not 1, or 3 4 2")
	makes(t, "(=> p q p r)", "p, q, r, not 0, not 1, or 3 4 3 2")
	makes(t, "(=> r q p)", "r, q, p, not 0, not 1, or 3 4 2")
	makes(t, "(=> (not p) p)", "p, not 0, not 1, or 2 0")
	makes(t, listed("=>", api.MaxArgs, "p", "q"), "p, q, not 0, not 1, or"+strings.Repeat(" 2 3", api.MaxArgs/2-1)+" 2 1")
}

func TestXor(t *testing.T) {
	makes(t, "(xor p q)", "p, q, iff 0 1, not 2")
	makes(t, "(xor p p)", "p, iff 0 0, not 1")
	makes(t, "(xor p q r)", "p, q, r, iff 0 1, not 3, iff 4 2, not 5")
	makes(t, "(xor r q p q)", "r, q, p, iff 0 1, not 3, iff 4 2, not 5, iff 6 1, not 7")
	makes(t, "(xor p (xor q r))", "p, q, r, iff 1 2, not 3, iff 0 4, not 5")
	makes(t, "(xor (= x y) (< x y))", "x, y, eq 0 1, 1, add 0 3, le 4 1, iff 2 5, not 6")
}

func TestEqual(t *testing.T) {
	makes(t, "(= p q)", "p, q, iff 0 1")
	makes(t, "(= x y)", "x, y, eq 0 1")
	makes(t, "(= x x)", "x, eq 0 0")
	makes(t, "(= q p)", "q, p, iff 0 1")
	makes(t, "(= p q r)", "p, q, r, iff 0 1, iff 1 2, and 3 4")
	makes(t, "(= x y z)", "x, y, z, eq 0 1, eq 1 2, and 3 4")
	makes(t, "(= x y x)", "x, y, eq 0 1, eq 1 0, and 2 3")
	makes(t, "(= x x x)", "x, eq 0 0, and 1 1")
	makes(t, "(= 1 y x 1)", "1, y, x, eq 0 1, eq 1 2, eq 2 0, and 3 4 5")
	makes(t, "(= true (= x y))", "true, x, y, eq 1 2, iff 0 3")
	makes(t, "(= (b x) (b y))", "x, b 0, y, b 2, iff 1 3")
	makes(t, "(= (ite p q r) p)", "p, q, r, ite 0 1 2, iff 3 0")
	makes(t, "(= (ite p x y) z)", "p, x, y, ite 0 1 2, z, eq 3 4")
	makes(t, listed("=", api.MaxArgs+1, "x", "y"), "x, y, eq 0 1, eq 1 0, and"+strings.Repeat(" 2 3", api.MaxArgs/2))
}

func TestDistinct(t *testing.T) {
	makes(t, "(distinct p q)", "p, q, iff 0 1, not 2")
	makes(t, "(distinct x y)", "x, y, eq 0 1, not 2")
	makes(t, "(distinct y x)", "y, x, eq 0 1, not 2")
	makes(t, "(distinct x x)", "x, eq 0 0, not 1")
	makes(t, "(distinct x y z)", "x, y, z, eq 0 1, not 3, eq 0 2, not 5, eq 1 2, not 7, and 4 6 8")
	makes(t, "(distinct p q r)", "p, q, r, iff 0 1, not 3, iff 0 2, not 5, iff 1 2, not 7, and 4 6 8")
	makes(t, "(distinct x y 1 z)", "x, y, 1, z, eq 0 1, not 4, eq 0 2, not 6, eq 0 3, not 8, eq 1 2, not 10, eq 1 3, not 12, eq 2 3, not 14, and 5 7 9 11 13 15")
	makes(t, "(distinct x y x)", "x, y, eq 0 1, not 2, eq 0 0, not 4, eq 1 0, not 6, and 3 5 7")
	makes(t, listed("distinct", 11, "x"), "x, eq 0 0, not 1, and"+strings.Repeat(" 2", 55))
}

func TestIte(t *testing.T) {
	makes(t, "(ite p x y)", "p, x, y, ite 0 1 2")
	makes(t, "(ite p q r)", "p, q, r, ite 0 1 2")
	makes(t, "(ite p p p)", "p, ite 0 0 0")
	makes(t, "(ite (= x y) 1 x)", "x, y, eq 0 1, 1, ite 2 3 0")
	makes(t, "(not (ite p q r))", "p, q, r, ite 0 1 2, not 3")
}

func TestPlus(t *testing.T) {
	makes(t, "(+ x)", "x")
	makes(t, "(+ 7)", "7")
	makes(t, "(+ x y)", "x, y, add 0 1")
	makes(t, "(+ x x)", "x, add 0 0")
	makes(t, "(+ 1 2)", "1, 2, add 0 1")
	makes(t, "(+ z y x y)", "z, y, x, add 0 1 2 1")
	makes(t, "(+ (+ x y) (+ (f x) 1))", "x, y, add 0 1, f 0, 1, add 3 4, add 2 5")
	makes(t, listed("+", api.MaxArgs, "x", "y"), "x, y, add"+strings.Repeat(" 0 1", api.MaxArgs/2))
}

func TestMinus(t *testing.T) {
	makes(t, "(- x)", "x, mul -1 0")
	makes(t, "(- 5)", "5, mul -1 0")
	makes(t, "(- 0)", "0, mul -1 0")
	makes(t, "(- (- x))", "x, mul -1 0, mul -1 1")
	makes(t, "(- x y)", "x, y, mul -1 1, add 0 2")
	makes(t, "(- x x)", "x, mul -1 0, add 0 1")
	makes(t, "(- 5 3)", "5, 3, mul -1 1, add 0 2")
	makes(t, "(- x y z)", "x, y, z, mul -1 1, mul -1 2, add 0 3 4")
	makes(t, "(- x y x y)", "x, y, mul -1 1, mul -1 0, add 0 2 3 2")
	makes(t, "(- z (- x y))", "z, x, y, mul -1 2, add 1 3, mul -1 4, add 0 5")
	makes(t, listed("-", api.MaxArgs, "x", "y"), "x, y, mul -1 1, mul -1 0, add 0 2"+strings.Repeat(" 3 2", api.MaxArgs/2-1))
}

func TestAtMostAtLeast(t *testing.T) {
	makes(t, "(<= x y)", "x, y, le 0 1")
	makes(t, "(<= x x)", "x, le 0 0")
	makes(t, "(<= 3 x)", "3, x, le 0 1")
	makes(t, "(<= x y z)", "x, y, z, le 0 1, le 1 2, and 3 4")
	makes(t, "(<= x y x 1)", "x, y, 1, le 0 1, le 1 0, le 0 2, and 3 4 5")
	makes(t, "(>= x y)", "x, y, le 1 0")
	makes(t, "(>= x x)", "x, le 0 0")
	makes(t, "(>= 3 x)", "3, x, le 1 0")
	makes(t, "(>= x y z)", "x, y, z, le 1 0, le 2 1, and 3 4")
	makes(t, "(>= x y x 1)", "x, y, 1, le 1 0, le 0 1, le 2 0, and 3 4 5")
	makes(t, listed("<=", api.MaxArgs+1, "x", "y"), "x, y, le 0 1, le 1 0, and"+strings.Repeat(" 2 3", api.MaxArgs/2))
	makes(t, listed(">=", api.MaxArgs+1, "x", "y"), "x, y, le 1 0, le 0 1, and"+strings.Repeat(" 2 3", api.MaxArgs/2))
}

func TestBelowAbove(t *testing.T) {
	makes(t, "(< x 3)", "x, 3, 1, add 0 2, le 3 1")
	makes(t, "(< x y)", "x, y, 1, add 0 2, le 3 1")
	makes(t, "(< x x)", "x, 1, add 0 1, le 2 0")
	makes(t, "(< 1 x)", "1, x, add 0 0, le 2 1")
	makes(t, "(< x 1)", "x, 1, add 0 1, le 2 1")
	makes(t, "(< x y z)", "x, y, z, 1, add 0 3, le 4 1, add 1 3, le 6 2, and 5 7")
	makes(t, "(< x y x z)", "x, y, z, 1, add 0 3, le 4 1, add 1 3, le 6 0, le 4 2, and 5 7 8")
	makes(t, "(> x 3)", "x, 3, 1, add 1 2, le 3 0")
	makes(t, "(> x y)", "x, y, 1, add 1 2, le 3 0")
	makes(t, "(> x x)", "x, 1, add 0 1, le 2 0")
	makes(t, "(> 1 x)", "1, x, add 1 0, le 2 0")
	makes(t, "(> x y z)", "x, y, z, 1, add 1 3, le 4 0, add 2 3, le 6 1, and 5 7")
	makes(t, "(> x y x z)", "x, y, z, 1, add 1 3, le 4 0, add 0 3, le 6 1, add 2 3, le 8 0, and 5 7 9")
	makes(t, listed("<", api.MaxArgs+1, "x", "y"), "x, y, 1, add 0 2, le 3 1, add 1 2, le 5 0, and"+strings.Repeat(" 4 6", api.MaxArgs/2))
	makes(t, listed(">", api.MaxArgs+1, "x", "y"), "x, y, 1, add 1 2, le 3 0, add 0 2, le 5 1, and"+strings.Repeat(" 4 6", api.MaxArgs/2))
}

// One part is told as it stands where the table says so, of whatever sort it is; a term that is there is told again.
func TestTermsThatAreThere(t *testing.T) {
	for _, op := range []string{"and", "or", "+", "*"} {
		for _, part := range []string{"p", "x", "7", "true", "(f x)", "(b x)", "(not p)"} {
			alone := show(first(t, part))
			makes(t, "("+op+" "+part+")", alone)
		}
	}
	checkRead(t, few(), "(< x 3) 1 x (+ x 1) (<= (+ x 1) 3) (< x 3) (> 3 x) (>= 3 (+ x 1))", "x, 3, 1, add 0 2, le 3 1", 4, 2, 0, 3, 4, 4, 4, 4)
	checkRead(t, few(), "(distinct p q) (xor p q) (not (= p q)) (= p q)", "p, q, iff 0 1, not 2", 3, 3, 3, 2)
	checkRead(t, few(), "(- x) (* (- 1) x) (- x)", "x, mul -1 0, 1, mul -1 2", 1, 1, 1)
	checkRead(t, few(), "(=> p q) (or (not p) q)", "p, q, not 0, or 2 1", 3, 3)
	checkRead(t, few(), "(= p q) (= q p)", "p, q, iff 0 1, iff 1 0", 2, 3)
}

// How many parts each operator has.
func TestCounts(t *testing.T) {
	for op, least := range map[string]int{
		"not": 1, "and": 1, "or": 1, "=>": 2, "xor": 2, "=": 2, "distinct": 2, "ite": 3,
		"+": 1, "-": 1, "*": 1, "<=": 2, "<": 2, ">=": 2, ">": 2,
	} {
		for count := range least {
			checkCount(t, op, count)
		}
	}
	for op, most := range map[string]int{
		"not": 1, "and": 64, "or": 64, "=>": 64, "=": 65, "distinct": 11, "ite": 3, "+": 64, "-": 64, "<=": 65, "<": 65, ">=": 65, ">": 65,
	} {
		for _, count := range []int{most + 1, most + 2, most + 64, 500} {
			checkCount(t, op, count)
		}
	}
}

// checkCount fails unless an operator of so many parts, all of the right sort, has the wrong count.
func checkCount(t *testing.T, op string, count int) {
	t.Helper()
	parts := []string{"x", "y", "7"}
	if strings.Contains(" not and or => xor ite ", " "+op+" ") {
		parts = []string{"p", "q", "true"}
	}
	wrong(t, "§"+listed(op, count, parts...), api.ErrCount)
	wrong(t, "(or p §"+listed(op, count, parts...)+" nosuch)", api.ErrCount)
}

func TestCountsOfVeryMany(t *testing.T) {
	for _, op := range []string{"and", "or", "=>", "="} {
		checkNotRead(t, few(), listed(op, 30000, "p"), 0, api.ErrCount)
	}
	for _, op := range []string{"+", "-", "<=", "<", ">=", ">", "="} {
		checkNotRead(t, few(), listed(op, 30000, "x"), 0, api.ErrCount)
	}
	for _, part := range []string{"p", "x"} {
		checkNotRead(t, few(), listed("distinct", 1000, part), 0, api.ErrCount)
	}
}

// xor and * have as many parts as there are.
func TestCountsWithoutEnd(t *testing.T) {
	for _, count := range []int{64, 65, 66, 500} {
		text := listed("xor", count, "p", "q")
		r := first(t, text)
		if len(r.Terms) != 2+2*(count-1) || r.Terms[len(r.Terms)-1].Op != api.OpNot {
			t.Fatalf("%q makes %s", text, show(r))
		}
		makes(t, listed("*", count, "1"), "1")
		text = strings.Replace(listed("*", count, "1"), "1)", "x)", 1)
		makes(t, text, "1, x, mul 1 1")
	}
}

func TestCountsOfSymbols(t *testing.T) {
	for _, text := range []string{"§(p x)", "§(x 1)", "§(x x x)", "§(f)", "§(f x y)", "§(g x)", "§(g x y z)", "§(g)", "§(b)", "§(b x x)"} {
		wrong(t, text, api.ErrCount)
	}
	for _, text := range []string{"§" + listed("f", 64, "x"), "§" + listed("g", 65, "x"), "§" + listed("x", 500, "x")} {
		wrong(t, text, api.ErrCount)
	}
	syms := []api.Sym{named("h", 4, api.Bool), named("k", 3, api.Whole)}
	checkRead(t, syms, "(h 1 2 1 (k 3 1 2))", "1, 2, 3, k 2 0 1, h 0 1 0 3", 4)
	checkNotRead(t, syms, "(not (h 1 2 3))", 5, api.ErrCount)
	checkNotRead(t, syms, "(not (h 1 2 3 4 5))", 5, api.ErrCount)
}

// A count counts ahead of a sort.
func TestCountsCountAheadOfSorts(t *testing.T) {
	for _, text := range []string{
		"§(not x x)", "§(not p x)", "§(=> x)", "§(xor x)", "§(=)", "§(distinct x)", "§(ite x)", "§(ite x p)", "§(ite p x q x)", "§(ite x x x x)",
		"§(<= p)", "§(< p)", "§(>= p)", "§(> p)", "§(f p p)", "§(g p)", "§(b p q)", "§(p p)", "§(x p)",
		"§" + listed("and", 65, "x"), "§" + listed("or", 65, "p", "x"), "§" + listed("+", 65, "p", "x"),
	} {
		wrong(t, text, api.ErrCount)
	}
}

// Each part of each operator is of the right sort.
func TestSorts(t *testing.T) {
	for op, parts := range map[string]string{
		"not": "p", "and": "p q r", "or": "p q r", "=>": "p q r", "xor": "p q r", "+": "x y z", "-": "x y z", "*": "2 x 3",
		"<=": "x y z", "<": "x y z", ">=": "x y z", ">": "x y z", "f": "x", "g": "x y", "b": "x",
	} {
		list := strings.Fields(parts)
		for count := 1; count <= len(list); count++ {
			checkSorts(t, op, list[:count])
		}
	}
	for _, text := range []string{
		"§(= x p)", "§(= p x)", "§(= x y p)", "§(= x p y)", "§(= p x y)", "§(= p q x)", "§(= p x q)", "§(= x p q)", "§(= true 1)",
		"§(distinct x p)", "§(distinct p x)", "§(distinct x y p)", "§(distinct x p y)", "§(distinct p x y)", "§(distinct p q x)", "§(distinct p x q)", "§(distinct x p q)",
		"§(ite x x y)", "§(ite x p q)", "§(ite p x q)", "§(ite p q x)", "§(ite 1 p x)", "§(ite x x p)", "§(- p)", "§(- true)", "§(not 7)",
	} {
		wrong(t, text, api.ErrSort)
		wrong(t, "(let ((a "+text+")) nosuch)", api.ErrSort)
	}
}

// checkSorts fails unless an operator of these parts is refused with any one of them of the other sort.
func checkSorts(t *testing.T, op string, parts []string) {
	t.Helper()
	takes := map[string]int{"not": 1, "and": 2, "or": 2, "=>": 2, "xor": 2, "+": 2, "-": 1, "*": 2, "<=": 2, "<": 2, ">=": 2, ">": 2, "f": 1, "g": 2, "b": 1}
	if len(parts) < takes[op] {
		return
	}
	if _, _, at, err := readFew("(" + op + " " + strings.Join(parts, " ") + ")"); err != api.OK {
		t.Fatalf("%s of %v: error %d at %d", op, parts, err, at)
	}
	for i := range parts {
		for _, other := range []string{"p", "x", "true", "7", "(f x)", "(b x)", "(ite p q r)", "(ite p x y)", "(- 1)", "(< x y)", "(+ x y)"} {
			list := append([]string{op}, parts...)
			if isBool(t, other) == isBool(t, parts[i]) {
				continue
			}
			list[i+1] = other
			wrong(t, "§("+strings.Join(list, " ")+")", api.ErrSort)
			wrong(t, "(and p §("+strings.Join(list, " ")+") nosuch)", api.ErrSort)
		}
	}
}
