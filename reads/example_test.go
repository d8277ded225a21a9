package reads_test

import (
	"fmt"

	"countermand/reads"
)

// What README.md shows.
func Example() {
	now := reads.Now{Clock: 4}
	now.Versions[reads.Cell][1] = 4
	fmt.Println(now.Of(reads.Cell, 1), now.Of(reads.Cell, 8))
	s := reads.New(4)
	fmt.Println(s.Note(now, reads.Cell, 1), s.Note(now, reads.File, 0))
	now.Clock, now.Versions[reads.Feed][2] = 5, 5
	fmt.Println(s.Valid(now), s.Note(now, reads.Feed, 2), s.Stamp())
	now.Clock, now.Versions[reads.Cell][1], now.Versions[reads.Cell][2] = 6, 6, 6
	fmt.Println(s.Valid(now), s.Note(now, reads.Cell, 1), s.Note(now, reads.Cell, 2), s.Note(now, reads.Cell, 3))
	for e := range s.All() {
		fmt.Println(e.Kind, e.Index, e.Version)
	}
	fmt.Println(s.Len(), s.Has(reads.File, 0), s.Has(reads.Cell, 2), s.Stamp())
	// Output:
	// 4 0
	// true true
	// true true 5
	// false false false true
	// 0 1 4
	// 1 0 0
	// 2 2 5
	// 0 3 0
	// 4 true false 5
}
