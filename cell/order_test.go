package cell_test

import (
	"fmt"
	"math"
	"slices"
	"testing"

	"countermand/cell"
)

// told is one Set, as a list of these is the model of a row: what a thing is, is what the last one of its number says.
type told struct{ number, value, version int }

// model answers what a row of n things has behind these.
func model(n, first int, all []told) []pair[int] {
	var want []pair[int]
	for i := range n {
		p := pair[int]{first, 0}
		for _, x := range slices.Backward(all) {
			if x.number == i {
				p = pair[int]{x.value, x.version}
				break
			}
		}
		want = append(want, p)
	}
	return want
}

// play does Sets to a new row, and holds it against the model behind each.
func play(t *testing.T, n int, all []told) {
	t.Helper()
	r := cell.New(n, 3)
	for k, x := range all {
		there := slices.Contains([]int{0, 1, 2, 3, 4}[:n], x.number)
		if r.Set(x.number, x.value, x.version) != there {
			t.Fatalf("%d things: the last one of %v: %v", n, all[:k+1], !there)
		}
		has(t, fmt.Sprint(all[:k+1]), r, model(n, 3, all[:k+1])...)
	}
}

// rows plays every row of so many Sets.
func rows(t *testing.T, n int, all []told, length int, row []told) {
	if length == 0 {
		play(t, n, row)
		return
	}
	for _, x := range all {
		rows(t, n, all, length-1, append(slices.Clone(row), x))
	}
}

// P8.1: Sets in every order, four of them, of rows of up to three things.
func TestEveryOrder(t *testing.T) {
	all := []told{{0, 1, 1}, {0, 2, 9}, {1, 3, 5}, {1, 4, -5}, {2, 5, 0}, {2, 6, 7}, {3, 7, 8}, {-1, 8, 10}}
	for n := range 4 {
		rows(t, n, all, 4, nil)
	}
}

// P8.1: long rows of Sets.
func TestLongRows(t *testing.T) {
	pick := uint32(8)
	next := func(many int) int {
		pick = pick*1664525 + 1013904223
		return int(pick>>16) % many
	}
	versions := []int{0, 1, 2, 3, 50, 1000, -1, -50, math.MaxInt, math.MinInt}
	for range 100 {
		var all []told
		for range 60 {
			all = append(all, told{next(8) - 2, next(100), versions[next(len(versions))]})
		}
		play(t, next(6), all)
	}
}
