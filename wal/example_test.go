package wal_test

import (
	"fmt"

	"countermand/disk"
	"countermand/wal"
)

// What README.md shows.
func Example() {
	d := disk.New()
	l, _ := wal.Open(d, 0)
	l.Append("one")
	l.Force()
	l.Append("two")
	l.Append("three")
	fmt.Println(l.Size(), l.Lasting())
	d.Crash(1, 4)
	l, _ = wal.Open(d, 0)
	for load := range l.All() {
		fmt.Println(load)
	}
	fmt.Println(l.Torn(), l.Append("four"))
	l.Clear()
	fmt.Println(l.Torn(), l.Append("four"))
	// Output:
	// 29 1
	// one
	// two
	// true 9
	// false 0
}
