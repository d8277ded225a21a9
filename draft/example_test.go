package draft_test

import (
	"fmt"

	"countermand/draft"
)

// What README.md shows.
func Example() {
	d := &draft.Draft[string]{}
	fmt.Println(d.Put(3, "x"), d.Put(1, "y"), d.Put(3, "v"))
	fmt.Println(d.Get(3))
	none, ok := d.Get(2)
	fmt.Printf("%q %v\n", none, ok)
	c := d.Copy()
	c.Put(-2, "new")
	fmt.Println(d.Len(), c.Len())
	for i, s := range c.All() {
		fmt.Println(i, s)
	}
	// Output:
	// true true true
	// v true
	// "" false
	// 2 3
	// -2 new
	// 1 y
	// 3 v
}
