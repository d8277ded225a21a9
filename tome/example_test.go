package tome_test

import (
	"fmt"

	"countermand/file"
	"countermand/tome"
)

// What README.md shows.
func Example() {
	x := tome.New()
	ok := x.Set(2, file.File{Is: true, Text: "ab"}, 7)
	fmt.Println(ok, x.Set(6, file.File{}, 8))
	f, v := x.Get(2)
	fmt.Println(f.Text, v)
	x.Set(0, file.Make(file.File{}), 8)
	for i, f := range x.All() {
		fmt.Printf("%d %q\n", i, f.Text)
	}
	b := x.Bytes()
	fmt.Printf("%q\n", b)
	y, ok := tome.Read(b)
	fmt.Println(ok, tome.Same(x, y))
	_, v = y.Get(2)
	fmt.Println(v)
	y, ok = tome.Read(b + "more")
	fmt.Println(y == nil, ok)
	// Output:
	// true false
	// ab 7
	// 0 ""
	// 2 "ab"
	// "\x00\x00\x02\x02ab"
	// true true
	// 0
	// true false
}
