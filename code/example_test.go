package code_test

import (
	"fmt"

	"countermand/api"
	"countermand/code"
)

// What README.md shows.
func Example() {
	p := []api.Instr{
		{Op: api.Const, A: 1, B: 1},
		{Op: api.Begin},
		{Op: api.Load, A: 0, B: 5},
		{Op: api.Add, A: 0, B: 1},
		{Op: api.Store, A: 5, B: 0},
		{Op: api.End},
		{Op: api.Halt},
	}
	at, errno := code.Check(p)
	fmt.Println(at, errno, code.Blocks(p))
	p[4].A = 8
	at, errno = code.Check(p)
	fmt.Println(at, errno)
	at, errno = code.Check(p[:5])
	fmt.Println(at, errno)
	// Output:
	// 0 0 1
	// 4 11
	// 0 11
}
