package draft_test

import (
	"fmt"
	"math"
	"slices"
	"testing"

	"countermand/draft"
)

// pair is a thing that was written, by its number.
type pair[T any] struct {
	number int
	value  T
}

// edges are numbers that may be told apart wrongly, by their signs, their low bits, or as their difference goes round.
var edges = []int{
	math.MinInt, math.MinInt + 1, -1 << 62, -1<<32 - 1, -1 << 32, -1<<32 + 1, -1 << 31, -1 << 16, -256, -2, -1,
	0, 1, 2, 3, 7, 8, 63, 64, 255, 256, 1 << 16, 1 << 31, 1<<32 - 1, 1 << 32, 1<<32 + 1, 1 << 62, math.MaxInt - 1, math.MaxInt,
}

// list answers what a draft has, as All tells it.
func list[T any](d *draft.Draft[T]) []pair[T] {
	var all []pair[T]
	for i, value := range d.All() {
		all = append(all, pair[T]{i, value})
	}
	return all
}

// has tells a fault if any call answers another thing than a draft of these, and of nothing else, would.
func has[T comparable](t *testing.T, name string, d *draft.Draft[T], want ...pair[T]) {
	t.Helper()
	if got := d.Len(); got != len(want) {
		t.Fatalf("%s: Len is %d, want %d", name, got, len(want))
	}
	if got := list(d); !slices.Equal(got, want) {
		t.Fatalf("%s: %.300s, want %.300s", name, fmt.Sprint(got), fmt.Sprint(want))
	}
	written := map[int]bool{}
	for _, p := range want {
		written[p.number] = true
		if value, ok := d.Get(p.number); value != p.value || !ok {
			t.Fatalf("%s: Get(%d) is %v, %v, want %v", name, p.number, value, ok, p.value)
		}
	}
	var none T
	for _, p := range want {
		for _, i := range append([]int{p.number - 1, p.number + 1, -p.number, p.number ^ 1<<32, p.number ^ math.MinInt}, edges...) {
			if value, ok := d.Get(i); !written[i] && (value != none || ok) {
				t.Fatalf("%s: Get(%d) is %v, %v, and it wasn't written", name, i, value, ok)
			}
		}
	}
}

// puts tells a fault if Put is refused.
func puts[T any](t *testing.T, d *draft.Draft[T], all ...pair[T]) {
	t.Helper()
	for _, p := range all {
		if !d.Put(p.number, p.value) {
			t.Fatalf("Put(%d, %v) is refused", p.number, p.value)
		}
	}
}

// of answers a draft of these.
func of[T any](t *testing.T, all ...pair[T]) *draft.Draft[T] {
	t.Helper()
	d := &draft.Draft[T]{}
	puts(t, d, all...)
	return d
}

// byNumbers answers these in the order of their numbers.
func byNumbers[T any](all []pair[T]) []pair[T] {
	sorted := slices.Clone(all)
	slices.SortFunc(sorted, func(a, b pair[T]) int {
		switch {
		case a.number < b.number:
			return -1
		case a.number > b.number:
			return 1
		}
		return 0
	})
	return sorted
}

// P13.1, the chapter's example.
func TestChaptersExample(t *testing.T) {
	has(t, "3, then 1", of(t, pair[string]{3, "x"}, pair[string]{1, "y"}), pair[string]{1, "y"}, pair[string]{3, "x"})
}

// P13.1: of an empty draft nothing was written, and it may be written to.
func TestEmpty(t *testing.T) {
	d := &draft.Draft[string]{}
	has(t, "empty", d)
	for _, i := range edges {
		if value, ok := d.Get(i); value != "" || ok {
			t.Errorf("Get(%d) is %q, %v", i, value, ok)
		}
	}
	c := d.Copy()
	if c == nil || c == d {
		t.Fatal("the copy of an empty draft is none of its own")
	}
	has(t, "its copy", c)
	var v draft.Draft[string]
	puts(t, &v, pair[string]{0, "a"})
	has(t, "a variable", &v, pair[string]{0, "a"})
	has(t, "a new one", of(t, pair[string]{0, "a"}), pair[string]{0, "a"})
}

// P13.1: of a nil draft nothing, false; its copy is nil.
func TestNil(t *testing.T) {
	var d *draft.Draft[string]
	for _, i := range edges {
		if d.Put(i, "x") {
			t.Errorf("Put(%d) is true", i)
		}
		if value, ok := d.Get(i); value != "" || ok {
			t.Errorf("Get(%d) is %q, %v", i, value, ok)
		}
	}
	has(t, "nil", d)
	if d.All() == nil {
		t.Error("All can't be gone over")
	}
	if d.Copy() != nil {
		t.Error("there is a copy")
	}
}

// P13.1: what was written is there, with its number; others aren't. One number alone, any two, and any two with one of them written again.
func TestEveryTwoNumbers(t *testing.T) {
	for _, a := range edges {
		has(t, fmt.Sprint(a), of(t, pair[int]{a, 5}), pair[int]{a, 5})
		for _, b := range edges {
			if a == b {
				has(t, fmt.Sprint("twice ", a), of(t, pair[int]{a, 5}, pair[int]{a, 6}), pair[int]{a, 6})
				continue
			}
			two := []pair[int]{{a, 5}, {b, 6}}
			d := of(t, two...)
			has(t, fmt.Sprint(two), d, byNumbers(two)...)
			puts(t, d, pair[int]{a, 7})
			has(t, fmt.Sprint(two, ", then 7"), d, byNumbers([]pair[int]{{a, 7}, {b, 6}})...)
		}
	}
}

// P13.1: numbers may be written in any order: rising, falling, and each way of every other one.
func TestManyNumbers(t *testing.T) {
	var rising []pair[int]
	for k, i := range edges {
		rising = append(rising, pair[int]{i, k + 1})
	}
	for i := range 1000 {
		rising = append(rising, pair[int]{1000 + 3*i, 100 + i})
	}
	rising = byNumbers(rising)
	falling := slices.Clone(rising)
	slices.Reverse(falling)
	var apart []pair[int]
	for k := range rising {
		apart = append(apart, rising[k*577%len(rising)])
	}
	if len(rising)%577 == 0 || !slices.Equal(byNumbers(apart), rising) {
		t.Fatal("not each number once")
	}
	has(t, "rising", of(t, rising...), rising...)
	has(t, "falling", of(t, falling...), rising...)
	has(t, "in leaps", of(t, apart...), rising...)
	d := of(t, apart...)
	puts(t, d, rising...)
	puts(t, d, falling...)
	has(t, "each three times", d, rising...)
}

// P13.1: what was written is what it was written last to be, once, where it stood; a zero value is written as any other.
func TestWrittenAgain(t *testing.T) {
	d := of(t, pair[string]{1, "a"}, pair[string]{2, "b"}, pair[string]{3, "c"})
	puts(t, d, pair[string]{2, "again"}, pair[string]{1, "first"}, pair[string]{2, ""})
	has(t, "again", d, pair[string]{1, "first"}, pair[string]{2, ""}, pair[string]{3, "c"})
	puts(t, d, pair[string]{2, "b"}, pair[string]{2, "b"})
	has(t, "as it was", d, pair[string]{1, "first"}, pair[string]{2, "b"}, pair[string]{3, "c"})
	has(t, "zeros", of(t, pair[int]{0, 0}, pair[int]{-1, 0}), pair[int]{-1, 0}, pair[int]{0, 0})
}

// P13.1: what is asked changes nothing.
func TestAsking(t *testing.T) {
	d := of(t, pair[int]{4, 40}, pair[int]{2, 20})
	for _, i := range append([]int{2, 3, 4, 5}, edges...) {
		d.Get(i)
	}
	d.All()
	d.Copy()
	has(t, "asked", d, pair[int]{2, 20}, pair[int]{4, 40})
}

// P13.1, with rule 4: a copy has the same, and neither knows what the other is told behind that: in front, between, behind, and what was written.
func TestCopy(t *testing.T) {
	for n := range 20 {
		var all []pair[int]
		for i := range n {
			all = append(all, pair[int]{10 * i, i})
		}
		for i := -5; i <= 10*n; i += 5 {
			d := of(t, all...)
			c := d.Copy()
			has(t, "the copy", c, all...)
			changed := append(slices.DeleteFunc(slices.Clone(all), func(p pair[int]) bool { return p.number == i }), pair[int]{i, 99})
			puts(t, c, pair[int]{i, 99})
			has(t, fmt.Sprint("the draft, behind Put to its copy at ", i), d, all...)
			has(t, fmt.Sprint("the copy, behind Put at ", i), c, byNumbers(changed)...)
			c = d.Copy()
			puts(t, d, pair[int]{i, 99})
			has(t, fmt.Sprint("the copy, behind Put to its draft at ", i), c, all...)
			has(t, fmt.Sprint("the draft, behind Put at ", i), d, byNumbers(changed)...)
		}
	}
}

// P13.1, with rule 4: copies of copies, each told something else at the same place, as a list with spare room would mix them up.
func TestCopiesOfCopies(t *testing.T) {
	for n := range 10 {
		d := &draft.Draft[int]{}
		var all []pair[int]
		for i := range n {
			puts(t, d, pair[int]{i, i})
			all = append(all, pair[int]{i, i})
		}
		first, second := d.Copy(), d.Copy()
		third := second.Copy()
		for k, x := range []*draft.Draft[int]{d, first, second, third} {
			puts(t, x, pair[int]{n, 100 + k})
		}
		for k, x := range []*draft.Draft[int]{d, first, second, third} {
			has(t, fmt.Sprint(n, " things, the ", k, ". of four"), x, append(slices.Clone(all), pair[int]{n, 100 + k})...)
		}
	}
}

// P13.1, with rule 4: two drafts know nothing of one another.
func TestTwoDrafts(t *testing.T) {
	d, o := &draft.Draft[int]{}, &draft.Draft[int]{}
	puts(t, d, pair[int]{0, 1})
	puts(t, o, pair[int]{0, 2}, pair[int]{1, 3})
	has(t, "one", d, pair[int]{0, 1})
	has(t, "the other", o, pair[int]{0, 2}, pair[int]{1, 3})
}

// P13.1, with rule 9: what is gone over may be left at any time, and gone over again, one within another too.
func TestAllLeft(t *testing.T) {
	all := []pair[int]{{-7, 1}, {0, 2}, {4, 3}, {5, 4}, {900, 5}}
	d := of(t, all...)
	seq := d.All()
	for stop := range len(all) {
		var got []pair[int]
		for i, value := range seq {
			if got = append(got, pair[int]{i, value}); len(got) > stop {
				break
			}
		}
		if !slices.Equal(got, all[:stop+1]) {
			t.Errorf("left at %d: %v", stop, got)
		}
	}
	times := 0
	for range seq {
		for i, value := range seq {
			if all[times%len(all)] != (pair[int]{i, value}) {
				t.Errorf("the %d. within another: %d, %d", times, i, value)
			}
			times++
		}
	}
	if times != len(all)*len(all) {
		t.Errorf("%d times", times)
	}
	has(t, "gone over", d, all...)
}

// P13.1: what is gone over is what was written by then; who goes over it may write: each number is told once, rising.
func TestAllWhileWriting(t *testing.T) {
	d := of(t, pair[int]{10, 1}, pair[int]{20, 2})
	seq := d.All()
	puts(t, d, pair[int]{30, 3})
	var got []pair[int]
	for i, value := range seq {
		got = append(got, pair[int]{i, value})
		puts(t, d, pair[int]{i, value + 100}, pair[int]{i - 5, 0}, pair[int]{i - 100, 0})
	}
	if want := []pair[int]{{10, 1}, {20, 2}, {30, 3}}; !slices.Equal(got, want) {
		t.Errorf("%v, want %v", got, want)
	}
	has(t, "behind that", d,
		pair[int]{-90, 0}, pair[int]{-80, 0}, pair[int]{-70, 0}, pair[int]{5, 0}, pair[int]{10, 101},
		pair[int]{15, 0}, pair[int]{20, 102}, pair[int]{25, 0}, pair[int]{30, 103})
}
