package draft_test

import (
	"fmt"
	"maps"
	"math"
	"slices"
	"testing"

	"countermand/draft"
)

// model is a draft told another way: what each thing is to be, by its number.
type model map[int]int

// pairs answers what was written, by rising numbers.
func (m model) pairs() []pair[int] {
	var all []pair[int]
	for _, i := range slices.Sorted(maps.Keys(m)) {
		all = append(all, pair[int]{i, m[i]})
	}
	return all
}

// two is a draft and another one, each with its model: a copy takes the place of the one that it isn't made of.
type two struct {
	drafts [2]*draft.Draft[int]
	models [2]model
}

// call is one thing that happens, and its name.
type call struct {
	name string
	do   func(t *testing.T, x *two)
}

// put answers the call of Put to one of two.
func put(which, i, value int) call {
	return call{fmt.Sprint("put ", which, ": ", i, ", ", value), func(t *testing.T, x *two) {
		puts(t, x.drafts[which], pair[int]{i, value})
		x.models[which][i] = value
	}}
}

// copied answers the call of Copy of one of two, in the other one's place.
func copied(which int) call {
	return call{fmt.Sprint("copy ", which), func(t *testing.T, x *two) {
		x.drafts[1-which], x.models[1-which] = x.drafts[which].Copy(), maps.Clone(x.models[which])
	}}
}

// run does a row of calls to two new drafts, and holds both against their models behind each.
func run(t *testing.T, row []call) {
	t.Helper()
	x := &two{[2]*draft.Draft[int]{{}, {}}, [2]model{{}, {}}}
	name := ""
	for _, c := range row {
		name += c.name + "; "
		c.do(t, x)
		for which, d := range x.drafts {
			has(t, fmt.Sprint(name, "of ", which), d, x.models[which].pairs()...)
		}
	}
}

// rows does every row of so many calls.
func rows(t *testing.T, all []call, length int, row []call) {
	if length == 0 {
		run(t, row)
		return
	}
	for _, c := range all {
		rows(t, all, length-1, append(slices.Clone(row), c))
	}
}

// P13.1: two drafts, written and copied in every order, five times.
func TestEveryOrder(t *testing.T) {
	rows(t, []call{put(0, 1, 1), put(0, 2, 2), put(0, 1, 3), put(1, 2, 4), put(1, 0, 5), copied(0), copied(1)}, 5, nil)
}

// P13.1: numbers written in every order of four.
func TestEveryOrderOfNumbers(t *testing.T) {
	var all []call
	for k, i := range []int{math.MinInt, -1, 0, 1, math.MaxInt} {
		all = append(all, put(0, i, k+1), put(0, i, -k))
	}
	rows(t, all, 4, nil)
}

// P13.1: long rows of calls, of numbers near each other and far.
func TestLongRows(t *testing.T) {
	pick := uint32(13)
	next := func(many int) int {
		pick = pick*1664525 + 1013904223
		return int(pick>>16) % many
	}
	for range 60 {
		var row []call
		near := 1 + next(30)
		for range 100 {
			switch next(10) {
			case 0:
				row = append(row, copied(next(2)))
			case 1, 2:
				row = append(row, put(next(2), edges[next(len(edges))], next(1000)))
			default:
				row = append(row, put(next(2), next(near)-near/2, next(1000)))
			}
		}
		run(t, row)
	}
}
