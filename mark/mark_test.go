package mark_test

import (
	"fmt"
	"math"
	"runtime"
	"testing"
	"weak"

	"countermand/acts"
	"countermand/api"
	"countermand/cursor"
	"countermand/draft"
	"countermand/file"
	"countermand/mark"
	"countermand/sheet"
	"countermand/tome"
)

// told is what a state has, told as values alone: things that aren't the same are copied when they are handed on.
type told struct {
	cells   [8]int
	written [8]bool
	files   [6]file.File
	filed   [6]bool
	read    [3]int
	regs    api.Regs
}

// numbers are registers of any kind.
var numbers = []api.Regs{{}, {1, 2, 3, 4}, {-1, math.MaxInt, math.MinInt, 0}, {0, 0, 0, 7}, {5}}

// has tells a fault if a state isn't in every way as is told.
func has(t *testing.T, name string, s mark.State, want told) {
	t.Helper()
	if s.Regs != want.regs {
		t.Fatalf("%s: registers %v, want %v", name, s.Regs, want.regs)
	}
	if s.Cells == nil || s.Sheet == nil || s.Sheet.Draft() == nil || s.Cursor == nil {
		t.Fatalf("%s: a part isn't there: %+v", name, s)
	}
	n := 0
	for i, is := range want.written {
		if v, ok := s.Cells.Get(i); v != want.cells[i] || ok != is {
			t.Fatalf("%s: cell %d is %d, %v, want %d, %v", name, i, v, ok, want.cells[i], is)
		}
		if is {
			n++
		}
	}
	if s.Cells.Len() != n {
		t.Fatalf("%s: %d cells, want %d", name, s.Cells.Len(), n)
	}
	n = 0
	for i, is := range want.filed {
		if f, ok := s.Sheet.Draft().Get(i); f != want.files[i] || ok != is {
			t.Fatalf("%s: file %d is %+v, %v, want %+v, %v", name, i, f, ok, want.files[i], is)
		}
		if is {
			n++
		}
	}
	if s.Sheet.Draft().Len() != n {
		t.Fatalf("%s: %d files, want %d", name, s.Sheet.Draft().Len(), n)
	}
	for sock, n := range want.read {
		if got := s.Cursor.Read(sock); got != n {
			t.Fatalf("%s: %d bytes were read at socket %d, want %d", name, got, sock, n)
		}
	}
}

// change is one way to let a state be another one, and what is told of it the same.
type change struct {
	name string
	do   func(s *mark.State)
	tell func(w *told)
}

// changes are such of each part.
var changes = []change{
	{"a cell", func(s *mark.State) { s.Cells.Put(3, 30) }, func(w *told) { w.cells[3], w.written[3] = 30, true }},
	{"the cell again", func(s *mark.State) { s.Cells.Put(3, 31) }, func(w *told) { w.cells[3], w.written[3] = 31, true }},
	{"a cell of 0", func(s *mark.State) { s.Cells.Put(0, 0) }, func(w *told) { w.cells[0], w.written[0] = 0, true }},
	{"a file", func(s *mark.State) { s.Sheet.Create(tome.New(), 5) }, func(w *told) { w.files[5], w.filed[5] = file.Make(w.files[5]), true }},
	{"a byte", func(s *mark.State) { s.Sheet.Write(tome.New(), 5, 0, 'b') }, byteTold},
	{"a file's end", func(s *mark.State) { s.Sheet.Remove(tome.New(), 5) }, func(w *told) { w.files[5] = file.File{} }},
	{"a step", func(s *mark.State) { s.Cursor.Step(2) }, func(w *told) { w.read[2]++ }},
	{"a step elsewhere", func(s *mark.State) { s.Cursor.Step(0) }, func(w *told) { w.read[0]++ }},
	{"a register", func(s *mark.State) { s.Regs[3]++ }, func(w *told) { w.regs[3]++ }},
}

// byteTold tells of a byte that is written, by which the file is there too.
func byteTold(w *told) {
	w.files[5] = file.Put(w.files[5], 0, 'b')
	w.filed[5] = true
}

// of answers a state behind some of the changes, in their order, with what is told of it.
func of(regs api.Regs, which int) (mark.State, told) {
	s, w := mark.Fresh(regs), told{regs: regs}
	for i, c := range changes {
		if which>>i&1 > 0 {
			c.do(&s)
			c.tell(&w)
		}
	}
	return s, w
}

// every is so many ways to choose of the changes.
const every = 1 << 9

// P17.1: a fresh state has nothing but its registers, and is no part of another one.
func TestFresh(t *testing.T) {
	for _, regs := range numbers {
		first := mark.Fresh(regs)
		has(t, "a fresh one", first, told{regs: regs})
		for _, c := range changes {
			second, want := mark.Fresh(regs), told{regs: regs}
			c.do(&first)
			has(t, "a fresh one, when another one was changed by "+c.name, second, want)
			c.do(&second)
			c.tell(&want)
			has(t, "a fresh one, behind "+c.name, second, want)
		}
		has(t, "a fresh one at last", mark.Fresh(regs), told{regs: regs})
	}
}

// P17.1: a copy has the same, and neither of the two knows of what is done with the other one.
func TestCopy(t *testing.T) {
	for which := range every {
		s, want := of(numbers[which%len(numbers)], which)
		has(t, fmt.Sprintf("%b", which), s, want)
		has(t, fmt.Sprintf("a copy of %b", which), s.Copy(), want)
		for _, c := range changes {
			name := fmt.Sprintf("%b, %s", which, c.name)
			o, more := s.Copy(), want
			if o.Cells == s.Cells || o.Sheet == s.Sheet || o.Cursor == s.Cursor || o.Sheet.Draft() == s.Sheet.Draft() {
				t.Fatalf("%s: a copy shares a part", name)
			}
			c.do(&o)
			c.tell(&more)
			has(t, name+": the copy", o, more)
			has(t, name+": what was copied", s, want)
			last := o.Copy()
			c.do(&o)
			has(t, name+": a copy of the copy", last, more)
		}
	}
}

// P17.1: a copy of a state of which parts aren't there has none of these either.
func TestCopyOfParts(t *testing.T) {
	if o := (mark.State{}).Copy(); o != (mark.State{}) {
		t.Errorf("a copy of an empty state is %+v", o)
	}
	if o := (mark.State{Regs: api.Regs{1, 2}}).Copy(); o != (mark.State{Regs: api.Regs{1, 2}}) {
		t.Errorf("a copy of registers is %+v", o)
	}
	d := &draft.Draft[int]{}
	d.Put(7, 70)
	if o := (mark.State{Cells: d}).Copy(); o.Cells == nil || o.Cells == d || o.Cells.Len() != 1 || o.Sheet != nil || o.Cursor != nil {
		t.Errorf("a copy of cells is %+v", o)
	}
	if o := (mark.State{Sheet: &sheet.Sheet{}}).Copy(); o.Sheet == nil || o.Sheet.Draft() != nil || o.Cells != nil || o.Cursor != nil {
		t.Errorf("a copy of an empty sheet is %+v", o)
	}
	if o := (mark.State{Cursor: &cursor.Cursor{}}).Copy(); o.Cursor == nil || o.Cursor.Any() || o.Cells != nil || o.Sheet != nil {
		t.Errorf("a copy of an empty cursor is %+v", o)
	}
}

// P17.1: what is popped is as it was pushed, behind each change of the state that was pushed.
func TestStateGoesOn(t *testing.T) {
	for which := range every {
		for _, c := range changes {
			name := fmt.Sprintf("%b, then %s", which, c.name)
			s, want := of(numbers[which%len(numbers)], which)
			k := &mark.Stack{}
			m := mark.Mark{State: s, Acts: acts.Mark{1, which, 3, 4}, Place: which - 9}
			if !k.Push(m) {
				t.Fatalf("%s: Push is false", name)
			}
			c.do(&s)
			c.do(&m.State)
			got, ok := k.Pop()
			if !ok || got.Acts != (acts.Mark{1, which, 3, 4}) || got.Place != which-9 {
				t.Fatalf("%s: Pop is %+v, %v", name, got, ok)
			}
			has(t, name, got.State, want)
		}
	}
}

// P17.1: neither the state that was pushed, nor marks that stay, know of what is done with one that was popped.
func TestPoppedGoesOn(t *testing.T) {
	for _, c := range changes {
		s, want := of(api.Regs{1}, every/2-1)
		k := &mark.Stack{}
		for place := range 4 {
			k.Push(mark.Mark{State: s, Place: place})
		}
		for place := 3; place >= 0; place-- {
			m, ok := k.Pop()
			if !ok || m.Place != place || k.Len() != place {
				t.Fatalf("%s: Pop is %+v, %v, want place %d", c.name, m, ok, place)
			}
			has(t, c.name+": a popped one", m.State, want)
			c.do(&m.State)
			has(t, c.name+": the one that was pushed", s, want)
		}
	}
}

// P17.1: a mark that was popped and pushed again is another one than what was popped.
func TestPushedAgain(t *testing.T) {
	for _, c := range changes {
		s, want := of(api.Regs{1}, 0)
		k := &mark.Stack{}
		k.Push(mark.Mark{State: s})
		for range 5 {
			m, _ := k.Pop()
			has(t, c.name, m.State, want)
			c.do(&m.State)
			c.tell(&want)
			k.Push(m)
			c.do(&m.State)
		}
	}
}

// P17.1: the youngest one goes first; Len counts them; a Clear takes all, and marks behind it are new ones.
func TestOrder(t *testing.T) {
	k := &mark.Stack{}
	for _, many := range []int{0, 1, 2, 3, 4, 5, 8, 9, 100, 1000} {
		for turn := range 3 {
			for n := range many {
				if !k.Push(mark.Mark{State: mark.Fresh(api.Regs{n}), Acts: acts.Mark{n}, Place: n}) || k.Len() != n+1 {
					t.Fatalf("%d of %d: Push is false, or Len %d", n, many, k.Len())
				}
			}
			if turn == 1 {
				k.Clear()
				none(t, fmt.Sprintf("%d behind Clear", many), k)
				continue
			}
			for n := many - 1; n >= 0; n-- {
				m, ok := k.Pop()
				if !ok || m.Place != n || m.Acts != (acts.Mark{n}) || k.Len() != n {
					t.Fatalf("%d of %d: Pop is %+v, %v, Len %d", n, many, m, ok, k.Len())
				}
				has(t, fmt.Sprintf("%d of %d", n, many), m.State, told{regs: api.Regs{n}})
			}
			none(t, fmt.Sprintf("%d behind Pops", many), k)
		}
	}
}

// none tells a fault if a stack has a mark.
func none(t *testing.T, name string, k *mark.Stack) {
	t.Helper()
	for range 3 {
		if k.Len() != 0 {
			t.Fatalf("%s: Len is %d", name, k.Len())
		}
		if m, ok := k.Pop(); ok || m != (mark.Mark{}) {
			t.Fatalf("%s: Pop is %+v, %v", name, m, ok)
		}
	}
}

// P17.1: acts and places of any numbers come back as they were.
func TestAnyNumbers(t *testing.T) {
	k := &mark.Stack{}
	for _, n := range []int{0, 1, -1, 47, 48, 64, 1 << 40, math.MaxInt, math.MinInt} {
		for part := range 4 {
			var a acts.Mark
			a[part] = n
			for _, place := range []int{0, -n, n} {
				k.Push(mark.Mark{State: mark.Fresh(api.Regs{}), Acts: a, Place: place})
				if m, ok := k.Pop(); !ok || m.Acts != a || m.Place != place {
					t.Fatalf("pushed %v and %d, popped %v and %d, %v", a, place, m.Acts, m.Place, ok)
				}
			}
		}
	}
}

// P17.1: a mark of which parts aren't there comes back so; one that is empty is told from none.
func TestParts(t *testing.T) {
	k := &mark.Stack{}
	if !k.Push(mark.Mark{}) || k.Len() != 1 {
		t.Fatalf("Push of an empty mark is false, or Len %d", k.Len())
	}
	if m, ok := k.Pop(); !ok || m != (mark.Mark{}) {
		t.Fatalf("an empty mark is %+v, %v", m, ok)
	}
	c := &cursor.Cursor{}
	c.Step(1)
	k.Push(mark.Mark{State: mark.State{Cursor: c}, Place: 2})
	c.Step(1)
	m, ok := k.Pop()
	if !ok || m.State.Cells != nil || m.State.Sheet != nil || m.State.Cursor.Read(1) != 1 || m.Place != 2 {
		t.Fatalf("a cursor alone is %+v, %v", m, ok)
	}
	none(t, "behind these", k)
}

// P17.1: a stack may be an empty one, in a variable too; two of them are two.
func TestEmpty(t *testing.T) {
	var k mark.Stack
	none(t, "one in a variable", &k)
	k.Clear()
	none(t, "one in a variable, cleared", &k)
	other := &mark.Stack{}
	k.Push(mark.Mark{State: mark.Fresh(api.Regs{1}), Place: 1})
	none(t, "another one", other)
	other.Clear()
	if m, ok := k.Pop(); !ok || m.Place != 1 {
		t.Errorf("Pop is %+v, %v", m, ok)
	}
}

// P17.1: of a nil stack nothing, false.
func TestNil(t *testing.T) {
	var k *mark.Stack
	for range 2 {
		none(t, "a nil one", k)
		if k.Push(mark.Mark{State: mark.Fresh(api.Regs{1}), Place: 1}) || k.Push(mark.Mark{}) {
			t.Fatal("Push to a nil one is true")
		}
		k.Clear()
	}
}

// P17.1: a mark that was popped is gone: the stack doesn't hold on to any part of its state.
func TestGone(t *testing.T) {
	k := &mark.Stack{}
	cells, files, read := popped(k)
	runtime.GC()
	if cells.Value() != nil || files.Value() != nil || read.Value() != nil {
		t.Error("the stack keeps what was popped")
	}
	runtime.KeepAlive(k)
}

// popped pushes two marks, pops one, and answers what led to its parts. It stands apart, so that nothing else leads there.
func popped(k *mark.Stack) (weak.Pointer[draft.Draft[int]], weak.Pointer[sheet.Sheet], weak.Pointer[cursor.Cursor]) {
	s, _ := of(api.Regs{1}, every-1)
	k.Push(mark.Mark{State: s})
	k.Push(mark.Mark{State: s})
	m, _ := k.Pop()
	return weak.Make(m.State.Cells), weak.Make(m.State.Sheet), weak.Make(m.State.Cursor)
}
