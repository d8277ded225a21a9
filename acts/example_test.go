package acts_test

import (
	"fmt"

	"countermand/acts"
)

// What README.md shows.
func Example() {
	a := &acts.Acts{}
	fmt.Println(a.Later(2, 'z'), a.Send(0, 'a'), a.Send(3, 'b'))
	fmt.Println(a.Note(7), a.Opened(1, 5), a.Opened(2, 3))
	fmt.Println(a.Output(), a.Notes(), a.Undo())
	m := a.Mark()
	fmt.Println(m)
	a.Send(1, 'c')
	a.Opened(0, 9)
	fmt.Println(a.Back(m), a.Mark())
	fmt.Println(a.Flush(), a.Output())
	fmt.Println(a.Back(acts.Mark{}), a.Mark())
	// Output:
	// true true false
	// true true true
	// [{0 97} {2 122}] [7] [{2 -3} {1 -5}]
	// [1 1 1 2]
	// [{0 -9}] [1 1 1 2]
	// [{0 97}] [{2 122}]
	// [{2 -3} {1 -5}] [0 0 0 0]
}
