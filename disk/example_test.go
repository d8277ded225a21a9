package disk_test

import (
	"fmt"

	"countermand/disk"
)

// What README.md shows.
func Example() {
	d := disk.New()
	d.Append(0, "kept ")
	d.Sync()
	d.Append(0, "torn")
	d.Append(1, "lost")
	fmt.Printf("%q %q %d\n", d.Read(0), d.Safe(0), d.Waits())
	d.Crash(0, 2)
	fmt.Printf("%q %q %d\n", d.Read(0), d.Read(1), d.Waits())
	// Output:
	// "kept torn" "kept " 2
	// "kept to" "" 0
}
