package draft_test

import (
	"fmt"
	"math"
	"testing"

	"countermand/cell"
	"countermand/draft"
	"countermand/file"
)

// goes tells a fault if a draft of a type's things, two of which are handed in, doesn't have them where they belong.
func goes[T comparable](t *testing.T, first, second T) {
	t.Helper()
	var none T
	name := fmt.Sprintf("%T", none)
	d := of(t, pair[T]{5, first}, pair[T]{-1, second})
	has(t, name, d, pair[T]{-1, second}, pair[T]{5, first})
	c := d.Copy()
	puts(t, d, pair[T]{5, none}, pair[T]{2, second}, pair[T]{-1, first})
	has(t, name+", written again", d, pair[T]{-1, first}, pair[T]{2, second}, pair[T]{5, none})
	has(t, name+", copied", c, pair[T]{-1, second}, pair[T]{5, first})
	var nothing *draft.Draft[T]
	if nothing.Put(0, first) || nothing.Copy() != nil {
		t.Errorf("%s: there is a nil draft's", name)
	}
	has(t, name+", nil", nothing)
	has(t, name+", empty", &draft.Draft[T]{})
}

// P13.1: things of any type that can be held against each other.
func TestKinds(t *testing.T) {
	goes(t, true, false)
	goes(t, 7, -7)
	goes(t, int8(-128), int8(127))
	goes(t, uint64(math.MaxUint64), uint64(1))
	goes(t, 0.5, math.Inf(-1))
	goes(t, complex(1, 2), complex(0, -1))
	goes(t, "one", "\x00\xff")
	goes(t, struct{}{}, struct{}{})
	goes(t, file.File{Is: true, Text: "ab"}, file.File{Is: true})
	goes(t, struct {
		number int
		at     [2]int
	}{1, [2]int{1, 2}}, struct {
		number int
		at     [2]int
	}{2, [2]int{3, 4}})
	goes(t, [3]byte{1, 2, 3}, [3]byte{3})
	goes(t, [0]int{}, [0]int{})
	goes(t, new(int), new(int))
	goes(t, make(chan int), make(chan int))
	goes[any](t, "a text", 5)
	goes[any](t, nil, [2]string{"a", "b"})
	goes[error](t, nil, fmt.Errorf("one"))
	goes(t, cell.New(1, 1), cell.New(2, 2))
	goes[*draft.Draft[string]](t, nil, &draft.Draft[string]{})
}

// P13.1: things that can't be held against each other go too, as they are.
func TestKindsThatDontCompare(t *testing.T) {
	f := of(t, pair[func() int]{2, func() int { return 1 }}, pair[func() int]{1, func() int { return 2 }})
	sum := 0
	for _, g := range f.Copy().All() {
		sum = sum*10 + g()
	}
	if sum != 21 {
		t.Errorf("functions: %d", sum)
	}
	if g, ok := f.Get(3); g != nil || ok {
		t.Errorf("no function: %v", ok)
	}

	s := of(t, pair[[]int]{2, []int{1, 2}}, pair[[]int]{1, nil}, pair[[]int]{2, []int{3}})
	if got := fmt.Sprint(list(s)); got != "[{1 []} {2 [3]}]" {
		t.Errorf("slices: %s", got)
	}
	if x, ok := s.Get(1); x != nil || !ok {
		t.Errorf("a nil slice: %v, %v", x, ok)
	}
	if x, ok := s.Get(0); x != nil || ok {
		t.Errorf("no slice: %v, %v", x, ok)
	}

	m := of(t, pair[map[string]int]{0, map[string]int{"a": 1}}, pair[map[string]int]{-1, nil})
	if got := fmt.Sprint(list(m)); got != "[{-1 map[]} {0 map[a:1]}]" {
		t.Errorf("maps: %s", got)
	}

	a := of(t, pair[any]{1, []int{1}}, pair[any]{0, func() {}})
	if x, ok := a.Get(1); fmt.Sprint(x) != "[1]" || !ok {
		t.Errorf("anything: %v, %v", x, ok)
	}
}

// P13.1: a number that isn't like itself is kept as it is.
func TestNotANumber(t *testing.T) {
	d := of(t, pair[float64]{2, math.NaN()}, pair[float64]{1, 1}, pair[float64]{1, math.NaN()})
	for i, x := range d.All() {
		if y, ok := d.Get(i); !math.IsNaN(x) || !math.IsNaN(y) || !ok {
			t.Errorf("%d: %g, %g, %v", i, x, y, ok)
		}
	}
	if x, ok := d.Get(3); x != 0 || ok || d.Len() != 2 {
		t.Errorf("not written: %g, %v of %d", x, ok, d.Len())
	}
}

// P13.1, with rule 3: arrays and structs are values: neither who handed one in, nor who got one, changes the draft's.
func TestValuesApart(t *testing.T) {
	type box struct{ in [2]int }
	b := box{[2]int{1, 2}}
	d := &draft.Draft[box]{}
	puts(t, d, pair[box]{0, b})
	b.in[0] = 9
	puts(t, d, pair[box]{1, b})
	b.in[1] = 9
	got, _ := d.Get(0)
	got.in[0] = 8
	for _, x := range d.All() {
		x.in[1] = 8
	}
	has(t, "boxes", d, pair[box]{0, box{[2]int{1, 2}}}, pair[box]{1, box{[2]int{9, 2}}})
	if got != (box{[2]int{8, 2}}) {
		t.Errorf("%v", got)
	}
}
