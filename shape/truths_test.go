package shape_test

import "testing"

func TestNot(t *testing.T) {
	folds{
		{"true | not 0", "true | false", "0 1"},
		{"false | not 0", "false | true", "0 1"},
		{"true | false | not 1 | not 0", "true | false", "0 1 0 1"},
		{"true | not 0 | not 1 | not 2", "true | false", "0 1 0 1"},
		{"p | not 0", "p | not 0", "0 1"},
		{"p | not 0 | not 1 | not 2 | not 3", "p | not 0", "0 1 0 1 0"},
		{"x | y | le 0 1 | not 2 | not 3", "x | y | le 0 1 | not 2", "0 1 2 3 2"},
		{"p | q | and 0 1 | not 2 | not 3", "p | q | and 0 1 | not 2", "0 1 2 3 2"},
		{"p | true | and 0 1 | not 2 | not 0 | not 3", "p | true | not 0", "0 1 0 2 2 0"}, // of a stand-in, not of a term
	}.check(t)
}

func TestAndOrLetGo(t *testing.T) {
	folds{
		{"true | p | and 0 1 1", "true | p", "0 1 1"},
		{"true | p | and 0 1", "true | p", "0 1 1"},
		{"true | p | and 1 0", "true | p", "0 1 1"},
		{"p | and 0 0", "p", "0 0"},
		{"p | and 0 0 0 0", "p", "0 0"},
		{"true | and 0 0", "true", "0 0"},
		{"true | and 0 0 0", "true", "0 0"},
		{"true | p | q | and 1 0 2", "true | p | q | and 1 2", "0 1 2 3"},
		{"true | p | q | and 0 2 0 1 0", "true | p | q | and 2 1", "0 1 2 3"},
		{"p | q | and 0 1 0", "p | q | and 0 1", "0 1 2"},
		{"p | q | and 1 0 1 0 0 1", "p | q | and 1 0", "0 1 2"},
		{"p | q | and 1 0 | and 0 1 | and 1 0 1", "p | q | and 1 0 | and 0 1", "0 1 2 3 2"},
		{"p | q | x | true | g 2 2 | and 1 4 3 0 4", "p | q | x | true | g 2 2 | and 1 4 0", "0 1 2 3 4 5"},
		{"p | not 0 | q | and 1 2", "p | not 0 | q | and 1 2", "0 1 2 3"},
		{"p | q | or 0 1 | and 2 0 | and 3 3", "p | q | or 0 1 | and 2 0", "0 1 2 3 3"},
	}.checkBoth(t)
}

func TestAndOrDecided(t *testing.T) {
	folds{
		{"false | p | and 0 1", "false | p", "0 1 0"},
		{"false | p | and 1 0", "false | p", "0 1 0"},
		{"false | p | q | and 1 2 0", "false | p | q", "0 1 2 0"},
		{"false | true | and 0 1", "false | true", "0 1 0"},
		{"false | true | and 1 0 1", "false | true", "0 1 0"},
		{"false | and 0 0", "false", "0 0"},
		{"p | not 0 | and 0 1", "p | not 0 | false", "0 1 2"},
		{"p | not 0 | and 1 0", "p | not 0 | false", "0 1 2"},
		{"p | not 0 | q | and 0 2 1", "p | not 0 | q | false", "0 1 2 3"},
		{"p | not 0 | q | and 1 2 0", "p | not 0 | q | false", "0 1 2 3"},
		{"p | not 0 | q | and 2 1 1 0 2", "p | not 0 | q | false", "0 1 2 3"},
		{"p | not 0 | q | not 2 | and 0 3 | and 1 3 0", "p | not 0 | q | not 2 | and 0 3 | false", "0 1 2 3 4 5"},
		{"p | not 0 | true | and 2 0 2 1", "p | not 0 | true | false", "0 1 2 3"},
		{"p | not 0 | false | and 0 1", "p | not 0 | false", "0 1 2 2"},
		{"p | q | and 0 1 | not 2 | and 3 2", "p | q | and 0 1 | not 2 | false", "0 1 2 3 4"},
		{"p | q | and 0 1 | not 2 | and 3 0 1", "p | q | and 0 1 | not 2 | and 3 0 1", "0 1 2 3 4"}, // only a part itself is opposite
	}.checkBoth(t)
}

// Of their parts OpAnd and OpOr ask what stands in for them.
func TestAndOrOfStandIns(t *testing.T) {
	folds{
		{"p | true | and 0 1 | and 0 2", "p | true", "0 1 0 0"},
		{"p | not 0 | not 1 | and 2 1", "p | not 0 | false", "0 1 0 2"},
		{"p | not 0 | not 1 | and 1 2", "p | not 0 | false", "0 1 0 2"},
		{"p | q | not 0 | not 2 | and 0 1 3", "p | q | not 0 | and 0 1", "0 1 2 0 3"},
		{"true | not 0 | p | and 2 1", "true | false | p", "0 1 2 1"},
		{"false | not 0 | p | and 2 1", "false | true | p", "0 1 2 2"},
		{"x | eq 0 0 | not 1 | p | and 3 2", "x | true | false | p", "0 1 2 3 2"},
		{"p | not 0 | and 0 1 | q | and 3 2", "p | not 0 | false | q", "0 1 2 3 2"},
		{"p | iff 0 0 | q | ite 1 0 2 | and 0 3 2", "p | true | q | and 0 2", "0 1 2 0 3"},
		{"p | q | x | le 2 2 | g 2 2 | and 1 4 3 0 4", "p | q | x | true | g 2 2 | and 1 4 0", "0 1 2 3 4 5"},
	}.check(t)
	folds{
		{"p | false | or 0 1 | not 2 | or 3 0", "p | false | not 0 | true", "0 1 0 2 3"},
		{"x | eq 0 0 | not 1 | p | or 3 2", "x | true | false | p", "0 1 2 3 3"},
		{"p | q | not 0 | not 2 | or 0 1 3", "p | q | not 0 | or 0 1", "0 1 2 0 3"},
		{"true | not 0 | p | or 2 0", "true | false | p", "0 1 2 0"},
	}.check(t)
}

func TestIff(t *testing.T) {
	folds{
		{"p | iff 0 0", "p | true", "0 1"},
		{"true | iff 0 0", "true", "0 0"},
		{"false | iff 0 0", "false | true", "0 1"},
		{"true | false | iff 0 1 | iff 1 0 | iff 0 0 | iff 1 1", "true | false", "0 1 1 1 0 0"},
		{"true | p | iff 0 1 | iff 1 0", "true | p", "0 1 1 1"},
		{"false | p | iff 0 1", "false | p | not 1", "0 1 2"},
		{"false | p | iff 1 0", "false | p | not 1", "0 1 2"},
		{"false | p | not 1 | iff 1 0 | iff 0 1", "false | p | not 1", "0 1 2 2 2"},
		{"false | p | not 1 | iff 0 2", "false | p | not 1", "0 1 2 1"},
		{"false | p | not 1 | iff 2 0", "false | p | not 1", "0 1 2 1"},
		{"p | q | iff 0 1 | iff 1 0", "p | q | iff 0 1 | iff 1 0", "0 1 2 3"},
		{"p | not 0 | iff 0 1 | iff 1 0", "p | not 0 | iff 0 1 | iff 1 0", "0 1 2 3"}, // that these are unlike no rule tells
		{"p | true | and 0 1 | iff 2 0", "p | true", "0 1 0 1"},
		{"p | q | and 0 0 | iff 2 1", "p | q | iff 0 1", "0 1 0 2"},
	}.check(t)
}

func TestIte(t *testing.T) {
	folds{
		{"true | p | q | ite 0 1 2", "true | p | q", "0 1 2 1"},
		{"false | p | q | ite 0 1 2", "false | p | q", "0 1 2 2"},
		{"true | x | y | ite 0 1 2", "true | x | y", "0 1 2 1"},
		{"false | x | y | ite 0 1 2", "false | x | y", "0 1 2 2"},
		{"p | q | ite 0 1 1", "p | q", "0 1 1"},
		{"p | x | ite 0 1 1", "p | x", "0 1 1"},
		{"p | ite 0 0 0", "p", "0 0"},
		{"p | true | ite 0 1 1", "p | true", "0 1 1"},
		{"p | false | ite 0 1 1", "p | false", "0 1 1"},
		{"p | true | false | ite 0 1 2", "p | true | false", "0 1 2 0"},
		{"p | true | false | ite 0 2 1", "p | true | false | not 0", "0 1 2 3"},
		{"p | not 0 | true | false | ite 1 2 3", "p | not 0 | true | false", "0 1 2 3 1"},
		{"p | not 0 | true | false | ite 1 3 2", "p | not 0 | true | false", "0 1 2 3 0"},
		{"p | not 0 | true | false | ite 0 3 2", "p | not 0 | true | false", "0 1 2 3 1"},
		{"p | q | true | ite 0 2 1 | ite 0 1 2", "p | q | true | ite 0 2 1 | ite 0 1 2", "0 1 2 3 4"},
		{"p | q | false | ite 0 2 1 | ite 0 1 2", "p | q | false | ite 0 2 1 | ite 0 1 2", "0 1 2 3 4"},
		{"p | x | y | ite 0 1 2 | ite 0 2 1", "p | x | y | ite 0 1 2 | ite 0 2 1", "0 1 2 3 4"},
		{"p | q | ite 0 0 1 | not 0 | ite 3 0 1", "p | q | ite 0 0 1 | not 0 | ite 3 0 1", "0 1 2 3 4"},
		{"p | true | and 0 1 | q | ite 3 2 0", "p | true | q", "0 1 0 2 0"},
		{"p | x | le 1 1 | not 2 | ite 0 3 2", "p | x | true | false | not 0", "0 1 2 3 4"},
		{"p | #1 | #2 | ite 0 1 2 | ite 0 1 1", "p | #1 | #2 | ite 0 1 2", "0 1 2 3 1"},
	}.check(t)
}

// Where two things hold that a line says, the first one counts.
func TestFirstRuleOfALine(t *testing.T) {
	folds{
		{"true | false | ite 0 0 1 | ite 0 1 0 | ite 1 0 1 | ite 1 1 0", "true | false", "0 1 0 1 1 0"},
		{"true | p | ite 0 1 1", "true | p", "0 1 1"},
		{"false | p | ite 0 1 1", "false | p", "0 1 1"},
		{"false | iff 0 0 | not 1", "false | true", "0 1 0"},
		{"#0 | x | *2 1 | *0 2 | *0 0", "#0 | x | *2 1", "0 1 2 0 0"},
		{"#7 | *1 0 | *0 0", "#7 | #0", "0 0 1"},
		{"#7 | eq 0 0 | le 0 0", "#7 | true", "0 1 1"},
	}.check(t)
}
