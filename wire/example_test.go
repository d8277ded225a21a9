package wire_test

import (
	"fmt"

	"countermand/wire"
)

// What README.md shows.
func Example() {
	w := wire.New()
	w.Push(0, "0123456789")
	fmt.Println(w.Pump(0))
	fmt.Printf("%q\n", w.Take(0, 3))
	fmt.Println(w.Pump(0))
	fmt.Printf("%q %q %d\n", w.Trace(0), w.All(0), w.Left(0))
	w.Crash()
	fmt.Printf("%q %q %d\n", w.Trace(0), w.All(0), w.Left(0))
	// Output:
	// 8
	// "012"
	// 2
	// "012" "0123456789" 7
	// "012" "012" 0
}
