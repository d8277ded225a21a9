package wafer_test

import (
	"fmt"

	"countermand/wafer"
)

// What README.md shows.
func Example() {
	b := wafer.Row("one", "two") + wafer.Close("three")[:5]
	for load := range wafer.All(b) {
		fmt.Println(load)
	}
	load, size := wafer.Open(b)
	fmt.Println(load, size, wafer.Whole(b))
	// Output:
	// one
	// two
	// one 9 18
}
