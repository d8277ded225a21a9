package cell_test

import (
	"fmt"
	"math"
	"testing"

	"countermand/cell"
)

// goes tells a fault if a row of a type's things, two of which are handed in, doesn't have them where they belong.
func goes[T comparable](t *testing.T, first, second T) {
	t.Helper()
	var none T
	name := fmt.Sprintf("%T", none)
	r := cell.New(3, first)
	has(t, name, r, pair[T]{first, 0}, pair[T]{first, 0}, pair[T]{first, 0})
	sets(t, r, 1, second, 4)
	has(t, name+", set", r, pair[T]{first, 0}, pair[T]{second, 4}, pair[T]{first, 0})
	lacks(t, r, second, -1, 3)
	sets(t, r, 1, none, 5)
	sets(t, r, 2, second, -2)
	has(t, name+", set again", r, pair[T]{first, 0}, pair[T]{none, 5}, pair[T]{second, -2})
	lacks(t, (*cell.Row[T])(nil), second, 0, 1)
}

// P8.1: things of any type that can be held against each other.
func TestKinds(t *testing.T) {
	goes(t, true, false)
	goes(t, 7, -7)
	goes(t, int8(-128), int8(127))
	goes(t, uint64(math.MaxUint64), uint64(1))
	goes(t, 0.5, math.Inf(-1))
	goes(t, complex(1, 2), complex(0, -1))
	goes(t, "one", "\x00\xff")
	goes(t, struct{}{}, struct{}{})
	goes(t, struct {
		name string
		at   [2]int
	}{"a", [2]int{1, 2}}, struct {
		name string
		at   [2]int
	}{"b", [2]int{3, 4}})
	goes(t, [3]byte{1, 2, 3}, [3]byte{3})
	goes(t, [0]int{}, [0]int{})
	goes(t, new(int), new(int))
	goes(t, make(chan int), make(chan int))
	goes[any](t, "a text", 5)
	goes[any](t, nil, [2]string{"a", "b"})
	goes[error](t, nil, fmt.Errorf("one"))
	goes(t, cell.New(1, 1), cell.New(2, 2))
	goes[*cell.Row[string]](t, nil, cell.New(1, "row"))
}

// P8.1: things that can't be held against each other go too, as they are.
func TestKindsThatDontCompare(t *testing.T) {
	f := cell.New(2, func() int { return 1 })
	sets(t, f, 1, func() int { return 2 }, 3)
	sum := 0
	for _, g := range f.All() {
		sum = sum*10 + g()
	}
	if sum != 12 {
		t.Errorf("functions: %d", sum)
	}
	if g, version := f.Get(2); g != nil || version != 0 {
		t.Errorf("no function: version %d", version)
	}

	s := cell.New(2, []int{1, 2})
	sets(t, s, 0, nil, 1)
	sets(t, s, 1, []int{3}, 2)
	if got := fmt.Sprint(of(s)); got != "[{[] 1} {[3] 2}]" {
		t.Errorf("slices: %s", got)
	}
	if x, version := s.Get(-1); x != nil || version != 0 {
		t.Errorf("no slice: %v, %d", x, version)
	}

	m := cell.New[map[string]int](2, nil)
	sets(t, m, 1, map[string]int{"a": 1}, 2)
	if got := fmt.Sprint(of(m)); got != "[{map[] 0} {map[a:1] 2}]" {
		t.Errorf("maps: %s", got)
	}

	a := cell.New[any](2, []int{1})
	sets[any](t, a, 1, func() {}, 2)
	if x, _ := a.Get(0); fmt.Sprint(x) != "[1]" {
		t.Errorf("anything: %v", x)
	}
}

// P8.1: a number that isn't like itself is kept as it is.
func TestNotANumber(t *testing.T) {
	r := cell.New(2, math.NaN())
	sets(t, r, 1, 1, 1)
	sets(t, r, 1, math.NaN(), 2)
	for i, x := range r.All() {
		if !math.IsNaN(x) || r.Version(i) != 2*i {
			t.Errorf("%d: %g of version %d", i, x, r.Version(i))
		}
	}
	if x, version := r.Get(2); x != 0 || version != 0 {
		t.Errorf("none such: %g, %d", x, version)
	}
}

// P8.1, with rule 3: arrays and structs are values: neither who handed one in, nor who got one, changes the row's.
func TestValuesApart(t *testing.T) {
	type box struct{ in [2]int }
	b := box{[2]int{1, 2}}
	r := cell.New(2, b)
	b.in[0] = 9
	sets(t, r, 1, b, 1)
	b.in[1] = 9
	got, _ := r.Get(0)
	got.in[0] = 8
	for _, x := range r.All() {
		x.in[1] = 8
	}
	has(t, "boxes", r, pair[box]{box{[2]int{1, 2}}, 0}, pair[box]{box{[2]int{9, 2}}, 1})
	if got != (box{[2]int{8, 2}}) {
		t.Errorf("%v", got)
	}
}
