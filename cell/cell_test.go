package cell_test

import (
	"fmt"
	"math"
	"slices"
	"testing"

	"countermand/cell"
)

// pair is a thing, and its version.
type pair[T any] struct {
	value   T
	version int
}

// of answers what a row has, as Get tells it.
func of[T any](r *cell.Row[T]) []pair[T] {
	var all []pair[T]
	for i := range r.Len() {
		value, version := r.Get(i)
		all = append(all, pair[T]{value, version})
	}
	return all
}

// newest answers the greatest version of all, at least 0.
func newest[T any](all []pair[T]) int {
	most := 0
	for _, p := range all {
		if p.version > most {
			most = p.version
		}
	}
	return most
}

// has tells a fault if any call answers another thing than a row of these would.
func has[T comparable](t *testing.T, name string, r *cell.Row[T], want ...pair[T]) {
	t.Helper()
	if got := r.Len(); got != len(want) {
		t.Fatalf("%s: Len is %d, want %d", name, got, len(want))
	}
	if got := of(r); !slices.Equal(got, want) {
		t.Fatalf("%s: %.200s, want %.200s", name, fmt.Sprint(got), fmt.Sprint(want))
	}
	for i, p := range want {
		if got := r.Version(i); got != p.version {
			t.Fatalf("%s: Version(%d) is %d, want %d", name, i, got, p.version)
		}
	}
	n := 0
	for i, value := range r.All() {
		if i != n || n >= len(want) || value != want[n].value {
			t.Fatalf("%s: All has %d, %v where the %d. should be", name, i, value, n)
		}
		n++
	}
	if n != len(want) {
		t.Fatalf("%s: All has %d of %d", name, n, len(want))
	}
	if got := r.Newest(); got != newest(want) {
		t.Fatalf("%s: Newest is %d, want %d", name, got, newest(want))
	}
}

// sets tells a fault if Set is refused.
func sets[T any](t *testing.T, r *cell.Row[T], i int, value T, version int) {
	t.Helper()
	if !r.Set(i, value, version) {
		t.Errorf("Set(%d, %v, %d) is refused", i, value, version)
	}
}

// lacks tells a fault if there is something of any of these numbers, or it can be set.
func lacks[T comparable](t *testing.T, r *cell.Row[T], other T, numbers ...int) {
	t.Helper()
	var none T
	for _, i := range numbers {
		if value, version := r.Get(i); value != none || version != 0 {
			t.Errorf("Get(%d): %v, %d", i, value, version)
		}
		if version := r.Version(i); version != 0 {
			t.Errorf("Version(%d): %d", i, version)
		}
		if r.Set(i, other, 99) || r.Set(i, none, 0) {
			t.Errorf("Set(%d)", i)
		}
	}
}

// noNumbers are numbers of which no row has a thing.
var noNumbers = []int{-1, -2, 1 << 10, 1<<10 + 1, 1 << 16, 1 << 32, 1<<32 + 1, -1 << 32, 1 - 1<<32, math.MaxInt, math.MaxInt - 1, math.MinInt, math.MinInt + 1}

// P8.1: so many things, all the same, of version 0; none, if it is below 1.
func TestNew(t *testing.T) {
	for _, n := range []int{math.MinInt, math.MinInt + 1, -1 << 32, 1 - 1<<32, -2, -1, 0, 1, 2, 3, 8, 100, 1<<10 - 1, 1 << 10} {
		var want []pair[int]
		for len(want) < n {
			want = append(want, pair[int]{7, 0})
		}
		name := fmt.Sprintf("New(%d, 7)", n)
		r := cell.New(n, 7)
		if r == nil {
			t.Fatalf("%s is nil", name)
		}
		has(t, name, r, want...)
		lacks(t, r, 5, append([]int{len(want), len(want) + 1}, noNumbers...)...)
		has(t, name+", behind what was refused", r, want...)
	}
}

// P8.1: a row has at most 2^10 things, whatever is asked for.
func TestNewOfTooMany(t *testing.T) {
	want := slices.Repeat([]pair[string]{{"x", 0}}, 1<<10)
	for _, n := range []int{1<<10 + 1, 1 << 11, 1 << 32, 1<<32 + 1, math.MaxInt - 1, math.MaxInt} {
		has(t, fmt.Sprintf("New(%d)", n), cell.New(n, "x"), want...)
	}
}

// P8.1: the chapter's example.
func TestGetExample(t *testing.T) {
	if value, version := cell.New(2, 7).Get(1); value != 7 || version != 0 {
		t.Errorf("%d, %d", value, version)
	}
}

// P8.1: each thing may be set, without any other being touched.
func TestSet(t *testing.T) {
	for _, n := range []int{1, 2, 5, 100, 1 << 10} {
		r := cell.New(n, "at first")
		want := slices.Repeat([]pair[string]{{"at first", 0}}, n)
		for _, i := range []int{0, n / 2, n - 1, n / 3, 0} {
			want[i] = pair[string]{want[i].value + "!", want[i].version + i + 1}
			sets(t, r, i, want[i].value, want[i].version)
			has(t, fmt.Sprintf("%d of %d", i, n), r, want...)
		}
	}
}

// P8.1: every thing of a row has its own number.
func TestSetAll(t *testing.T) {
	const n = 1 << 10
	r := cell.New(n, -1)
	var want []pair[int]
	for i := range n {
		want = append(want, pair[int]{i * i, n - i})
	}
	for i := n - 1; i >= 0; i-- {
		sets(t, r, i, want[i].value, want[i].version)
	}
	has(t, "all", r, want...)
}

// P8.1: a version is what it was set to, whatever it was, and whatever number it is.
func TestVersions(t *testing.T) {
	r := cell.New(2, 'a')
	for _, version := range []int{1, 2, 9, 9, 3, 0, 1, math.MaxInt, math.MaxInt - 1, 5, -1, 4, math.MinInt, math.MinInt + 1, 0, 1 << 32, 1 << 31, -1 << 31} {
		sets(t, r, 0, 'b', version)
		has(t, fmt.Sprint(version), r, pair[rune]{'b', version}, pair[rune]{'a', 0})
		sets(t, r, 0, 'c', version)
		has(t, fmt.Sprint(version, " again"), r, pair[rune]{'c', version}, pair[rune]{'a', 0})
	}
}

// P8.1: the greatest version of all, as they are now, wherever it stands; at least 0.
func TestNewest(t *testing.T) {
	for _, c := range []struct {
		name     string
		versions []int
		want     int
	}{
		{"none", nil, 0},
		{"one, at first", []int{0}, 0},
		{"one", []int{4}, 4},
		{"the first", []int{9, 1, 2}, 9},
		{"in between", []int{1, 9, 2}, 9},
		{"the last", []int{1, 2, 9}, 9},
		{"all the same", []int{3, 3, 3}, 3},
		{"the greatest number", []int{0, math.MaxInt, math.MaxInt - 1}, math.MaxInt},
		{"one below 0", []int{-1}, 0},
		{"all below 0", []int{-5, math.MinInt, -1}, 0},
		{"some below 0", []int{-5, 2, -9}, 2},
	} {
		r := cell.New(len(c.versions), struct{}{})
		for i, version := range c.versions {
			sets(t, r, i, struct{}{}, version)
		}
		if got := r.Newest(); got != c.want {
			t.Errorf("%s: %d, want %d", c.name, got, c.want)
		}
	}
	r := cell.New(3, 0)
	sets(t, r, 1, 0, 8)
	sets(t, r, 2, 0, 6)
	sets(t, r, 1, 0, 5)
	if got := r.Newest(); got != 6 {
		t.Errorf("behind an earlier version: %d, want 6", got)
	}
	if r.Set(3, 0, 70); r.Newest() != 6 {
		t.Errorf("behind a Set that was refused: %d, want 6", r.Newest())
	}
}

// P8.1: of no such number there is nothing, and nothing happens.
func TestNoSuchThing(t *testing.T) {
	for _, n := range []int{0, 1, 3, 1 << 10} {
		r := cell.New(n, "x")
		var want []pair[string]
		for i := range n {
			want = append(want, pair[string]{fmt.Sprint("set ", i), i + 1})
			sets(t, r, i, want[i].value, want[i].version)
		}
		lacks(t, r, "other", append([]int{n, n + 1}, noNumbers...)...)
		has(t, fmt.Sprint(n, " things"), r, want...)
	}
}

// P8.1: of a nil row there is nothing.
func TestNil(t *testing.T) {
	var r *cell.Row[string]
	has(t, "nil", r)
	lacks(t, r, "x", append([]int{0, 1, 2}, noNumbers...)...)
	has(t, "behind what was refused", r)
	if r.All() == nil {
		t.Error("All can't be gone over")
	}
}

// P8.1, with rule 9: what is gone over may be left at any time, and gone over again, one within another too.
func TestAllLeft(t *testing.T) {
	const n = 5
	r := cell.New(n, 0)
	for i := range n {
		sets(t, r, i, i*11, n-i)
	}
	all := r.All()
	for stop := range n {
		last, times := -1, 0
		for i, value := range all {
			if i != times || value != i*11 {
				t.Errorf("the %d. is %d, %d", times, i, value)
			}
			last = i
			times++
			if i == stop {
				break
			}
		}
		if last != stop || times != stop+1 {
			t.Errorf("left at %d: %d of them, the last %d", stop, times, last)
		}
	}
	times := 0
	for i := range all {
		for k, value := range all {
			if value != k*11 {
				t.Errorf("within %d: %d, %d", i, k, value)
			}
			times++
		}
	}
	if times != n*n {
		t.Errorf("%d times", times)
	}
}

// P8.1: what is gone over is what there is then; who goes over it may set what was seen.
func TestAllSeesWhatIs(t *testing.T) {
	r := cell.New(3, "old")
	all := r.All()
	sets(t, r, 2, "new", 1)
	got := ""
	for i, s := range all {
		got += s + " "
		sets(t, r, i, s+" seen", 2)
	}
	if got != "old old new " {
		t.Errorf("%q", got)
	}
	has(t, "set", r, pair[string]{"old seen", 2}, pair[string]{"old seen", 2}, pair[string]{"new seen", 2})
}

// P8.1, with rule 4: two rows know nothing of one another.
func TestTwoRows(t *testing.T) {
	r, o := cell.New(2, 1), cell.New(2, 1)
	sets(t, r, 0, 5, 6)
	sets(t, o, 1, 7, 8)
	has(t, "one", r, pair[int]{5, 6}, pair[int]{1, 0})
	has(t, "the other", o, pair[int]{1, 0}, pair[int]{7, 8})
}
