package whole_test

import (
	"math/big"
	"regexp"
	"strings"
	"testing"

	"elenchus/api"
	"elenchus/whole"
)

const most = 4096

func refused(t *testing.T, s string) {
	t.Helper()
	a, e := whole.Parse(s)
	if e != api.ErrForm || a.Neg || len(a.Abs) > 0 {
		t.Fatalf("Parse of %.40q (%d bytes): %v, %v", s, len(s), a, e)
	}
}

func parsed(t *testing.T, s string) {
	t.Helper()
	a, e := whole.Parse(s)
	if e != api.OK {
		t.Fatalf("Parse of %.40q (%d bytes): error %v", s, len(s), e)
	}
	want, _ := new(big.Int).SetString(s, 10)
	toldAs(t, "Parse", a, want)
	if got := whole.Print(a); got != s {
		t.Fatalf("Print of Parse of %.40q: %.40q", s, got)
	}
}

func TestPrint(t *testing.T) {
	for _, a := range edges() {
		if got, want := whole.Print(a), meant(a).String(); got != want {
			t.Errorf("Print: %s, but it is %s", got, want)
		}
	}
}

func TestPrintOfPowersOfTen(t *testing.T) {
	// Zeros within a number must not be lost, wherever groups of digits part.
	ten := big.NewInt(10)
	for n := range int64(120) {
		v := new(big.Int).Exp(ten, big.NewInt(n), nil)
		for more := int64(-1); more <= 1; more++ {
			w := new(big.Int).Add(v, big.NewInt(more))
			for _, x := range []*big.Int{w, new(big.Int).Neg(w)} {
				if got := whole.Print(of(x)); got != x.String() {
					t.Fatalf("Print: %s, but it is %v", got, x)
				}
			}
		}
	}
}

func TestPrintIsParsed(t *testing.T) {
	r := chance()
	for range 2000 {
		a := anyNumber(r, 8)
		s := whole.Print(a)
		if s != meant(a).String() {
			t.Fatalf("Print: %s, but it is %v", s, meant(a))
		}
		b, e := whole.Parse(s)
		if e != api.OK {
			t.Fatalf("Parse of %s: error %v", s, e)
		}
		toldAs(t, "Parse", b, meant(a))
	}
}

func TestParse(t *testing.T) {
	for _, s := range []string{
		"0", "1", "-1", "9", "10", "-10", "100", "1000000000", "4294967295", "4294967296",
		"9223372036854775807", "-9223372036854775808", "18446744073709551615", "18446744073709551616",
		"-340282366920938463463374607431768211456", "100000000000000000000000000000000000000000001",
	} {
		parsed(t, s)
	}
}

func TestParseRefuses(t *testing.T) {
	for _, s := range []string{
		"", "-", "--1", "-0", "00", "01", "-01", "-00", "+1", "+", " 1", "1 ", "- 1", "1-", "1-2", "1_000", "1,000",
		"0x1", "1e3", "1.0", "a", "a1", "1a", "-a", "1\n", "\t1", "\x00", "1\x00", "/", ":", "1/", "1:",
		"\xff", "1\xff", "\u0661", "1\u0662", "\u22121", "\uff11", "(- 1)",
	} {
		refused(t, s)
	}
}

func TestParseOfLongTexts(t *testing.T) {
	nines := strings.Repeat("9", most+1)
	parsed(t, nines[:most-1])
	parsed(t, nines[:most])
	refused(t, nines)
	parsed(t, "-"+nines[:most-2])
	parsed(t, "-"+nines[:most-1])
	refused(t, "-"+nines[:most])
	parsed(t, "1"+strings.Repeat("0", most-1))
	refused(t, "1"+strings.Repeat("0", most))
	refused(t, strings.Repeat("0", most))
	refused(t, nines[:most-1]+"x")
	refused(t, strings.Repeat("9", 1<<20))
}

func TestPrintOfMoreThanIsParsed(t *testing.T) {
	// What is printed has no greatest length; what is parsed has.
	v := new(big.Int).Exp(big.NewInt(10), big.NewInt(most), nil)
	if got := whole.Print(of(v)); got != v.String() {
		t.Fatal("Print of 4097 digits")
	}
	refused(t, whole.Print(of(v)))
	v.Sub(v, big.NewInt(1))
	parsed(t, whole.Print(of(v)))
	refused(t, whole.Print(of(v.Neg(v))))
}

func TestPrintOfManyWords(t *testing.T) {
	r := chance()
	for range 5 {
		a := anyNumber(r, 600)
		if whole.Print(a) != meant(a).String() {
			t.Fatalf("Print of %d words", len(a.Abs))
		}
	}
}

func TestParseOfAnyBytes(t *testing.T) {
	form := regexp.MustCompile(`^(0|-?[1-9][0-9]*)$`)
	signs := []byte("0123456789-+ ax/:\n\x00")
	r := chance()
	for range 20000 {
		s := make([]byte, r.IntN(6))
		for i := range s {
			s[i] = signs[r.IntN(len(signs))]
		}
		// A "$" of regexp stands at the text's end alone, so a line feed is no way out.
		if form.Match(s) {
			parsed(t, string(s))
		} else {
			refused(t, string(s))
		}
	}
}

func TestParseOfEachByte(t *testing.T) {
	for b := range 256 {
		s := string([]byte{byte(b)})
		if '0' <= b && b <= '9' {
			parsed(t, s)
			parsed(t, "7"+s)
		} else {
			refused(t, s)
			refused(t, "7"+s)
			refused(t, "7"+s+"7")
		}
	}
}
