package vault_test

import (
	"fmt"

	"countermand/disk"
	"countermand/vault"
)

// What README.md shows.
func Example() {
	d := disk.New()
	v, found, errno := vault.Open(d)
	fmt.Printf("%q %q %d\n", found.Image, found.Loads, errno)
	fmt.Println(v.Append("early"))
	v.Settle("image")
	v.Append("one")
	v.Force()
	v.Append("two")
	fmt.Println(v.Epoch(), v.Size())
	d.Crash(0, 9)
	v, found, errno = vault.Open(d)
	fmt.Printf("%q %q %d\n", found.Image, found.Loads, errno)
	v.Settle("image and one")
	fmt.Println(v.Epoch(), v.Size())
	// Output:
	// "" [] 0
	// 9
	// 1 33
	// "image" ["one"] 0
	// 2 21
}
