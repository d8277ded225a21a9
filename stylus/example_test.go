package stylus_test

import (
	"fmt"

	"countermand/stylus"
)

// What README.md shows.
func Example() {
	s := &stylus.Stylus{}
	s.Nat(300, 7)
	s.Int(-2)
	s.Text("name", "all")
	s.Raw("end")

	r := stylus.Of(s.Bytes())
	a, b := r.Nat(1000), r.Nat(1000)
	n := r.Int()
	x, y := r.Text(64), r.Text(64)
	e := r.Raw(3)
	fmt.Println(a, b, n, x, y, e, r.Over())
	// Output: 300 7 -2 name all end true
}
