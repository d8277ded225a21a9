package mark_test

import (
	"fmt"

	"countermand/acts"
	"countermand/api"
	"countermand/mark"
)

// What README.md shows.
func Example() {
	s := mark.Fresh(api.Regs{1, 2})
	s.Cells.Put(3, 30)
	k := &mark.Stack{}
	fmt.Println(k.Push(mark.Mark{State: s, Acts: acts.Mark{1, 0, 0, 2}, Place: 9}))
	s.Cells.Put(3, 31)
	s.Cursor.Step(0)
	o := s.Copy()
	o.Regs[0] = 7
	fmt.Println(s.Regs, o.Regs, k.Len())
	m, ok := k.Pop()
	v, _ := m.State.Cells.Get(3)
	fmt.Println(v, m.State.Cursor.Any(), m.Acts, m.Place, ok)
	_, ok = k.Pop()
	fmt.Println(ok)
	k.Push(m)
	k.Clear()
	fmt.Println(k.Len())
	// Output:
	// true
	// [1 2 0 0] [7 2 0 0] 1
	// 30 false [1 0 0 2] 9 true
	// false
	// 0
}
