package value_test

import (
	"math/big"
	"testing"

	"elenchus/api"
	"elenchus/value"
)

// checkTold fails unless a symbol tells this.
func checkTold(t *testing.T, s api.Sym, table api.Table, args []api.Int, want *big.Int) {
	t.Helper()
	if got := value.Tell(s, table, args); !isTold(got, want) {
		t.Fatalf("Tell of %v, %v, of %v: %v, but it is %s", s, table, args, got, want)
	}
}

// checkWhole is checkTold of a symbol of Whole, and of small numbers.
func checkWhole(t *testing.T, table api.Table, want int64, args ...api.Int) {
	t.Helper()
	checkTold(t, named("f", len(args), api.Whole), table, args, big.NewInt(want))
}

func TestTellWithoutRows(t *testing.T) {
	checkWhole(t, api.Table{}, 0)
	checkWhole(t, api.Table{}, 0, of(1))
	checkWhole(t, api.Table{Rows: []api.Row{}}, 0, of(), of(2))
	for count := range 6 {
		checkWhole(t, constant(of(9)), 9, make([]api.Int, count)...)
		checkWhole(t, api.Table{Rows: []api.Row{}, Else: below(9)}, -9, make([]api.Int, count)...)
	}
	checkTold(t, api.Sym{}, api.Table{}, nil, big.NewInt(0))
	checkTold(t, named("p", 0, api.Bool), api.Table{}, nil, big.NewInt(0))
	checkTold(t, named("p", 0, api.Bool), api.Table{}, []api.Int{}, big.NewInt(0))
}

func TestTellOfTheExample(t *testing.T) {
	table := api.Table{Rows: []api.Row{row(of(7), of(3))}, Else: of(1)}
	checkWhole(t, table, 7, of(3))
	checkWhole(t, table, 1, of(4))
	checkWhole(t, table, 1, below(3))
	checkWhole(t, table, 1, of())
	checkWhole(t, table, 1, of(3, 1))
}

// A row tells only where it has just as many numbers, whatever the symbol takes.
func TestTellOfFewerAndMoreNumbers(t *testing.T) {
	table := api.Table{Else: of(99)}
	for _, args := range [][]api.Int{{of(1), of(2), of(3)}, {of(1)}, {}, {of(1), of(2), of(3), of(4), of(5)}, {of(1), of(2)}, {of(1), of(2), of(3), of(4)}} {
		table.Rows = append(table.Rows, row(of(uint64(10+len(args))), args...))
	}
	all := []api.Int{of(1), of(2), of(3), of(4), of(5), of(6)}
	for count := range 6 {
		checkWhole(t, table, int64(10+count), all[:count]...)
		for arity := range 5 {
			checkTold(t, named("f", arity, api.Whole), table, all[:count], big.NewInt(int64(10+count)))
		}
	}
	checkWhole(t, table, 99, all...)
	checkWhole(t, table, 99, all[1:3]...)

	short := api.Table{Rows: []api.Row{row(of(5), of(1)), row(of(6))}, Else: of(7)}
	checkWhole(t, short, 7, of(1), of(0))
	checkWhole(t, short, 7, of(1), of(1))
	checkWhole(t, short, 7, of(0))
	checkWhole(t, short, 5, of(1))
	checkWhole(t, short, 6)
	long := api.Table{Rows: []api.Row{row(of(5), of(1), of(0)), row(of(6), of(0))}, Else: of(7)}
	checkWhole(t, long, 7, of(1))
	checkWhole(t, long, 7)
	checkWhole(t, long, 6, of())
}

// A symbol that takes nothing is told by a row of no numbers, where there is one.
func TestTellOfNoNumbers(t *testing.T) {
	table := api.Table{Rows: []api.Row{{Val: of(4)}, {Args: []api.Int{}, Val: of(5)}}, Else: of(6)}
	checkWhole(t, table, 4)
	checkTold(t, named("x", 0, api.Whole), table, []api.Int{}, big.NewInt(4))
	checkWhole(t, api.Table{Rows: table.Rows[1:], Else: of(6)}, 5)
	checkWhole(t, table, 6, of(0))
}

func TestTellByTheFirstOfLikeRows(t *testing.T) {
	table := api.Table{Rows: []api.Row{row(of(1), of(5)), row(of(2), of(3)), row(of(3), of(3)), row(of(4), of(5)), row(of(5), of(3, 0))}, Else: of(9)}
	checkWhole(t, table, 1, of(5))
	checkWhole(t, table, 2, of(3))
	checkWhole(t, table, 2, of(3, 0, 0))
	checkWhole(t, api.Table{Rows: table.Rows[2:], Else: of(9)}, 3, of(3))
	checkWhole(t, api.Table{Rows: table.Rows[4:], Else: of(9)}, 5, of(3))
	checkWhole(t, api.Table{Rows: table.Rows[4:], Else: of(9)}, 9, of(5))
	// Also where it tells 0, or false.
	none := api.Table{Rows: []api.Row{row(of(), of(3)), row(of(1), of(3))}, Else: of(1)}
	checkWhole(t, none, 0, of(3))
	checkTold(t, named("q", 1, api.Bool), none, []api.Int{of(3)}, big.NewInt(0))
}

// Each number counts, and where it stands.
func TestTellByEachNumber(t *testing.T) {
	args := []api.Int{of(1), of(2), below(3), of(0, 1)}
	table := api.Table{Rows: []api.Row{row(of(5), args...)}, Else: of(6)}
	checkWhole(t, table, 5, args...)
	for i := range args {
		for _, other := range []api.Int{of(), of(9), of(3), below(1), below(2), of(1, 1), below(0, 1), of(0, 0, 1)} {
			asked := append([]api.Int(nil), args...)
			asked[i] = other
			checkWhole(t, table, 6, asked...)
		}
	}
	checkWhole(t, table, 6, args[1], args[0], args[2], args[3])
	checkWhole(t, table, 6, args[3], args[2], args[1], args[0])
	swapped := api.Table{Rows: []api.Row{row(of(7), args[1], args[0]), row(of(8), args[0], args[1])}, Else: of(6)}
	checkWhole(t, swapped, 8, args[0], args[1])
	checkWhole(t, swapped, 7, args[1], args[0])
}

// Numbers may stand in any form wherever they stand.
func TestTellInAnyForm(t *testing.T) {
	for _, n := range someNumbers() {
		other := new(big.Int).Add(n, big.NewInt(1))
		for _, asked := range formsOf(n) {
			for _, stands := range formsOf(n) {
				table := api.Table{Rows: []api.Row{row(of(8), told(other), stands), row(stands, asked, stands)}, Else: asked}
				checkTold(t, named("f", 2, api.Whole), table, []api.Int{stands, asked}, n)
				checkTold(t, named("f", 2, api.Whole), table, []api.Int{told(other), asked}, big.NewInt(8))
				checkTold(t, named("f", 2, api.Whole), table, []api.Int{stands, told(other)}, n)
				checkTold(t, named("q", 2, api.Bool), table, []api.Int{stands, asked}, truth(n.Sign() != 0))
				checkTold(t, named("q", 2, api.Bool), table, []api.Int{told(other)}, truth(n.Sign() != 0))
			}
		}
	}
}

// Numbers are told apart by their sign and by each of their words.
func TestTellApart(t *testing.T) {
	all := someNumbers()
	var table api.Table
	table.Else = of(1000)
	for i, n := range all {
		table.Rows = append(table.Rows, row(of(uint64(i)), told(n)))
	}
	for i, n := range all {
		for _, asked := range formsOf(n) {
			checkWhole(t, table, int64(i), asked)
		}
	}
	checkWhole(t, table, 1000, of(4))
	checkWhole(t, table, 1000, below(0, 0, 0, 1))
}

// Of Bool all but 0 is true, of a row and of Else.
func TestTellOfBool(t *testing.T) {
	p := named("p", 1, api.Bool)
	for _, n := range someNumbers() {
		for _, v := range formsOf(n) {
			by := api.Table{Rows: []api.Row{row(v, of(3))}, Else: of()}
			checkTold(t, p, by, []api.Int{of(3)}, truth(n.Sign() != 0))
			checkTold(t, p, by, []api.Int{of(4)}, big.NewInt(0))
			by = api.Table{Rows: []api.Row{row(v, of(3))}, Else: of(1)}
			checkTold(t, p, by, []api.Int{of(3)}, truth(n.Sign() != 0))
			checkTold(t, p, by, []api.Int{of(4)}, big.NewInt(1))
			by = api.Table{Rows: []api.Row{row(of(1), of(3)), row(of(), of(5))}, Else: v}
			checkTold(t, p, by, []api.Int{of(4)}, truth(n.Sign() != 0))
			checkTold(t, p, by, nil, truth(n.Sign() != 0))
			checkTold(t, p, by, []api.Int{of(3)}, big.NewInt(1))
			checkTold(t, p, by, []api.Int{of(5)}, big.NewInt(0))
		}
	}
}

// What a symbol is called means nothing; nor does how many numbers it takes.
func TestTellOfAnyName(t *testing.T) {
	table := api.Table{Rows: []api.Row{row(of(2), of(3))}, Else: below(4)}
	for _, name := range []string{"", "f", "g", "\xff", "a b"} {
		for _, arity := range []int{-1, 0, 1, 4, 5} {
			checkTold(t, named(name, arity, api.Whole), table, []api.Int{of(3)}, big.NewInt(2))
			checkTold(t, named(name, arity, api.Whole), table, nil, big.NewInt(-4))
			checkTold(t, named(name, arity, api.Bool), table, []api.Int{of(3)}, big.NewInt(1))
			checkTold(t, named(name, arity, api.Bool), table, nil, big.NewInt(1))
		}
	}
}

func TestTellOfGreatNumbers(t *testing.T) {
	words := make([]uint64, 3000)
	words[0], words[2999] = 5, 1
	other := append([]uint64(nil), words...)
	other[1500] = 1
	table := api.Table{Rows: []api.Row{row(of(1), of(other...)), row(below(other...), of(append(words, 0, 0)...))}, Else: of(3)}
	checkTold(t, named("f", 1, api.Whole), table, []api.Int{of(words...)}, meant(below(other...)))
	checkWhole(t, table, 1, of(other...))
	checkWhole(t, table, 3, below(words...))
	var many api.Table
	for i := range 5000 {
		many.Rows = append(many.Rows, row(of(uint64(2*i)), of(uint64(i))))
	}
	checkWhole(t, many, 9998, of(4999))
	checkWhole(t, many, 0, of(5000))
}
