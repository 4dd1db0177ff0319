package numerals_test

import (
	"math/big"
	"slices"
	"strings"
	"testing"

	"elenchus/api"
	"elenchus/numerals"
)

// told is a number in the form in which numbers are told.
func told(text string) api.Int {
	v, ok := new(big.Int).SetString(text, 10)
	if !ok {
		panic("no number: " + text)
	}
	out := api.Int{Neg: v.Sign() < 0}
	for v.Abs(v); v.Sign() != 0; v.Rsh(v, 64) {
		out.Abs = append(out.Abs, new(big.Int).And(v, new(big.Int).SetUint64(1<<64-1)).Uint64())
	}
	return out
}

// short is a text's beginning.
func short(text string) string {
	return text[:min(len(text), 20)]
}

func checkParsed(t *testing.T, text string) {
	t.Helper()
	want := told(text)
	if got, err := numerals.Parse(text); err != api.OK || got.Neg != want.Neg || !slices.Equal(got.Abs, want.Abs) {
		t.Fatalf("Parse of the %d bytes %s..: error %d, or another number", len(text), short(text), err)
	}
}

func checkNotParsed(t *testing.T, text string) {
	t.Helper()
	if got, err := numerals.Parse(text); err != api.ErrForm || got.Neg || len(got.Abs) != 0 {
		t.Fatalf("Parse of the %d bytes %s..: error %d, or a number", len(text), short(text), err)
	}
}

// digits are as many as are asked for, the first one not 0; now and then many of them are 0.
func digits(count int) string {
	var out strings.Builder
	for i := range count {
		out.WriteByte("1234567890"[(i*i/7)%10])
	}
	return out.String()
}

// lengths are near those at which what is read at once ends.
func lengths() []int {
	out := []int{1, 2, 19, 20, 21, 100, 20000, api.MaxText}
	for _, end := range []int{4096, 4096 + 4095, 4096 + 2*4095} {
		out = append(out, end-2, end-1, end, end+1, end+2)
	}
	return out
}

func TestParse(t *testing.T) {
	for _, text := range []string{"0", "1", "-1", "9", "10", "-10", "18446744073709551615", "18446744073709551616", "-18446744073709551616"} {
		checkParsed(t, text)
	}
	for _, n := range lengths() {
		checkParsed(t, digits(n))
		checkParsed(t, "-"+digits(n))
		checkParsed(t, "-"+digits(n)[1:]+"7")
		checkParsed(t, "1"+strings.Repeat("0", n-1))
		checkParsed(t, "-1"+strings.Repeat("0", n-1))
		checkParsed(t, strings.Repeat("9", n))
	}
}

func TestParseOfNoNumerals(t *testing.T) {
	for _, text := range []string{"", "-", "-0", "00", "01", "-01", "+1", "--1", "a", "1a", " 1", "1 ", "0x1", "1_0"} {
		checkNotParsed(t, text)
	}
	for _, n := range lengths() {
		checkNotParsed(t, "0"+digits(n))
		checkNotParsed(t, "-0"+digits(n))
		checkNotParsed(t, "+"+digits(n))
		checkNotParsed(t, digits(n)+"-")
		checkNotParsed(t, digits(n)+" ")
		checkNotParsed(t, digits(n)+"-1")
		checkNotParsed(t, digits(n)+"a"+digits(5000))
	}
}
