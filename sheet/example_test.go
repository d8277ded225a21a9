package sheet_test

import (
	"fmt"

	"countermand/file"
	"countermand/sheet"
	"countermand/tome"
)

// What README.md shows.
func Example() {
	x := tome.New()
	x.Set(0, file.File{Is: true, Text: "abc"}, 1)
	s := sheet.New()
	ok := s.Write(x, 0, 1, 'x')
	fmt.Println(ok, s.Cut(x, 0, 2), s.Create(x, 6))
	fmt.Println(s.Write(x, 0, 0, 'a'))
	c := s.Copy()
	fmt.Println(c.Rename(x, 0, 5), c.Remove(x, 4))
	f, written := s.Get(x, 0)
	fmt.Println(f.Text, written)
	f, written = c.Get(x, 5)
	fmt.Println(f.Text, written)
	f, written = c.Get(x, 4)
	fmt.Println(f.Is, written)
	fmt.Println(s.Draft().Len(), c.Draft().Len())
	fmt.Println(c.Over(x, 9))
	f, v := x.Get(5)
	fmt.Println(f.Text, v)
	f, v = x.Get(0)
	fmt.Println(f.Is, v)
	// Output:
	// true true false
	// true
	// true true
	// ax true
	// ax true
	// false false
	// 1 2
	// 2
	// ax 9
	// false 9
}
