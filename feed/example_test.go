package feed_test

import (
	"fmt"

	"countermand/feed"
)

// What README.md shows.
func Example() {
	f := feed.New()
	fmt.Println(f.Arrive(0, "ab"), f.Arrive(0, "cd"))
	fmt.Println(f.At(0, 3), f.At(0, 4))
	fmt.Println(f.Take(0, 1, 5))
	fmt.Println(f.Place(0))
	fmt.Printf("%q %q\n", f.Left(0), f.Text(0))
	fmt.Println(f.Take(0, 0, 6), f.Take(0, 5, 6))
	fmt.Println(f.Arrive(0, string(make([]byte, 61))))
	// Output:
	// 0 0
	// 100 -1
	// true
	// 1 5
	// "bcd" "abcd"
	// false false
	// 6
}
