package file_test

import (
	"fmt"

	"countermand/file"
)

// What README.md shows.
func Example() {
	f := file.Make(file.File{})
	f = file.Put(f, 0, 'a')
	f = file.Put(f, 2, 'c')
	fmt.Printf("%q\n", f.Text)
	fmt.Println(file.At(f, 2), file.At(f, 3))
	f = file.Cut(f, 1)
	fmt.Printf("%q\n", f.Text)
	f = file.Put(f, 32, 'x')
	fmt.Printf("%q\n", f.Text)
	fmt.Println(file.Good(f), file.Good(file.File{Text: "lost"}))
	// Output:
	// "a\x00c"
	// 99 -1
	// "a"
	// "a"
	// true false
}
