package sexp_test

import (
	"math/rand/v2"
	"regexp"
	"slices"
	"strings"
	"testing"

	"elenchus/api"
	"elenchus/sexp"
)

// The document's signs, as patterns at a text's front.
var (
	parting  = regexp.MustCompile(`^(?:[ \t\n\r]|;[^\n]*)+`)
	plain    = regexp.MustCompile(`^[A-Za-z~!@$%^&*_+=<>.?/-][A-Za-z0-9~!@$%^&*_+=<>.?/-]*`)
	quoted   = regexp.MustCompile(`^\|([ -\[\]-{}~\t\n\r]*)\|`)
	unclosed = regexp.MustCompile(`^\|[ -\[\]-{}~\t\n\r]*`)
	digits   = regexp.MustCompile(`^[0-9]+`)
	numeral  = regexp.MustCompile(`^(?:0|[1-9][0-9]*)(?:[^A-Za-z0-9~!@$%^&*_+=<>.?/-]|$)`)
	keyword  = regexp.MustCompile(`^:([A-Za-z0-9~!@$%^&*_+=<>.?/-]+)`)
)

// oracle reads a text in another way than the program.
type oracle struct {
	text  string
	at    int
	opens []int
	fault int
	err   api.Errno
}

func (o *oracle) fail(at int, e api.Errno) {
	o.fault, o.err, o.at = at, e, len(o.text)
}

// list reads expressions up to a ")" that closes them, or the end.
func (o *oracle) list() []api.Expr {
	var out []api.Expr
	for o.at < len(o.text) {
		rest := o.text[o.at:]
		at := o.at
		switch {
		case parting.MatchString(rest):
			o.at += len(parting.FindString(rest))
		case rest[0] == ')' && len(o.opens) == 0:
			o.fail(at, api.ErrClose)
		case rest[0] == ')':
			o.at++
			o.opens = o.opens[:len(o.opens)-1]
			return out
		case rest[0] == '(' && len(o.opens) == 64:
			o.fail(at, api.ErrDeep)
		case rest[0] == '(':
			o.opens = append(o.opens, at)
			o.at++
			out = append(out, api.Expr{Kind: api.List, At: at, Parts: o.list()})
		default:
			out = append(out, o.leaf(rest)...)
		}
	}
	return out
}

func (o *oracle) leaf(rest string) []api.Expr {
	e := api.Expr{At: o.at}
	size := 0
	switch {
	case plain.MatchString(rest):
		e.Kind, e.Text = api.Symbol, plain.FindString(rest)
		size = len(e.Text)
	case quoted.MatchString(rest):
		e.Kind, e.Text = api.Symbol, quoted.FindStringSubmatch(rest)[1]
		size = len(e.Text) + 2
	case numeral.MatchString(rest):
		e.Kind, e.Text = api.Numeral, digits.FindString(rest)
		size = len(e.Text)
	case keyword.MatchString(rest):
		e.Kind, e.Text = api.Keyword, keyword.FindStringSubmatch(rest)[1]
		size = len(e.Text) + 1
	case rest[0] == '|' && unclosed.FindString(rest) == rest:
		o.fail(o.at, api.ErrOpen)
		return nil
	case rest[0] == '|':
		o.fail(o.at+len(unclosed.FindString(rest)), api.ErrLex)
		return nil
	default:
		o.fail(o.at, api.ErrLex)
		return nil
	}
	o.at += size
	return []api.Expr{e}
}

// expected is what the document asks of Read.
func expected(text string) ([]api.Expr, int, api.Errno) {
	if len(text) > 65536 {
		return nil, 0, api.ErrLong
	}
	o := &oracle{text: text}
	out := o.list()
	if o.err == api.OK && len(o.opens) > 0 {
		o.fail(o.opens[len(o.opens)-1], api.ErrOpen)
	}
	if o.err != api.OK {
		return nil, o.fault, o.err
	}
	return out, 0, api.OK
}

func equal(a, b api.Expr) bool {
	return a.Kind == b.Kind && a.At == b.At && a.Text == b.Text && equalAll(a.Parts, b.Parts)
}

func equalAll(a, b []api.Expr) bool {
	return slices.EqualFunc(a, b, equal)
}

// unplaced is a copy without places.
func unplaced(e api.Expr) api.Expr {
	out := api.Expr{Kind: e.Kind, Text: e.Text}
	for _, part := range e.Parts {
		out.Parts = append(out.Parts, unplaced(part))
	}
	return out
}

// checkRead holds what is read against what the document asks.
func checkRead(t *testing.T, text string) []api.Expr {
	t.Helper()
	got, at, e := sexp.Read(text)
	want, wantAt, wantE := expected(text)
	if at != wantAt || e != wantE || !equalAll(got, want) {
		t.Fatalf("Read of %s: %v, %d, %d, but it is %v, %d, %d", short(text), got, at, e, want, wantAt, wantE)
	}
	return got
}

// checkText fails unless just these expressions are read of a text.
func checkText(t *testing.T, text string, want ...api.Expr) {
	t.Helper()
	got, at, e := sexp.Read(text)
	if at != 0 || e != api.OK || !equalAll(got, want) {
		t.Fatalf("Read of %s: %v, %d, %d, but it is %v", short(text), got, at, e, want)
	}
	checkRead(t, text)
}

// checkFault fails unless a text is refused so.
func checkFault(t *testing.T, text string, at int, e api.Errno) {
	t.Helper()
	got, gotAt, gotE := sexp.Read(text)
	if len(got) != 0 || gotAt != at || gotE != e {
		t.Fatalf("Read of %s: %v, %d, %d, but it is %d, %d", short(text), got, gotAt, gotE, at, e)
	}
	checkRead(t, text)
}

// checkPrint fails unless an expression is printed so, and read as it was.
func checkPrint(t *testing.T, e api.Expr, want string) {
	t.Helper()
	got, err := sexp.Print(e)
	if err != api.OK || got != want {
		t.Fatalf("Print of %s: %s, %d, but it is %s", shown(e), short(got), err, short(want))
	}
	again, _, err := sexp.Read(got)
	if err != api.OK || len(again) != 1 || !equal(unplaced(again[0]), unplaced(e)) {
		t.Fatalf("Read of %s, which was printed: %d", short(got), err)
	}
}

// checkNotPrinted fails unless Print refuses an expression.
func checkNotPrinted(t *testing.T, what string, e api.Expr) {
	t.Helper()
	if got, err := sexp.Print(e); got != "" || err != api.ErrForm {
		t.Fatalf("Print of %s: %s, %d", what, short(got), err)
	}
}

func short(text string) string {
	if len(text) > 60 {
		return strings.ToValidUTF8(text[:60], "?") + ".."
	}
	return "`" + text + "`"
}

func shown(e api.Expr) string {
	if e.Kind == api.List {
		return "a list"
	}
	return short(e.Text)
}

func symbol(text string, at int) api.Expr {
	return api.Expr{Kind: api.Symbol, At: at, Text: text}
}

func number(text string, at int) api.Expr {
	return api.Expr{Kind: api.Numeral, At: at, Text: text}
}

func key(text string, at int) api.Expr {
	return api.Expr{Kind: api.Keyword, At: at, Text: text}
}

func list(at int, parts ...api.Expr) api.Expr {
	return api.Expr{Kind: api.List, At: at, Parts: parts}
}

// nested is an empty list within so many lists, itself counted.
func nested(deep int) api.Expr {
	e := list(0)
	for range deep - 1 {
		e = list(0, e)
	}
	return e
}

const (
	letters = "abcdefghijklmnopqrstuvwxyzABCDEFGHIJKLMNOPQRSTUVWXYZ"
	marks   = "~!@$%^&*_-+=<>.?/"
	tens    = "0123456789"
	blanks  = " \t\n\r"
)

// chance is the same in each run.
func chance() *rand.Rand {
	return rand.New(rand.NewPCG(3, 24))
}

// anyOf is a text of so many signs.
func anyOf(r *rand.Rand, signs string, size int) string {
	out := make([]byte, size)
	for i := range out {
		out[i] = signs[r.IntN(len(signs))]
	}
	return string(out)
}

// anyExpr could be read; it has at most so many lists within one another.
func anyExpr(r *rand.Rand, deep int) api.Expr {
	at := r.IntN(100)
	switch n := r.IntN(8); {
	case n < 3 && deep > 0:
		e := list(at)
		for range r.IntN(5) {
			e.Parts = append(e.Parts, anyExpr(r, deep-1))
		}
		return e
	case n < 4:
		return number(strings.TrimLeft(anyOf(r, tens, r.IntN(5)), "0")+anyOf(r, "123", 1), at)
	case n < 5:
		return key(anyOf(r, letters+marks+tens, 1+r.IntN(4)), at)
	case n < 6:
		return symbol(anyOf(r, letters+marks+tens+blanks+"();:\"'#,[]{}`", r.IntN(6)), at)
	}
	return symbol(anyOf(r, letters+marks, 1)+anyOf(r, letters+marks+tens, r.IntN(4)), at)
}
