package cursor_test

import (
	"fmt"
	"math"
	"testing"

	"countermand/api"
	"countermand/cursor"
)

// lost are numbers of which there is no socket.
var lost = []int{-1, 3, 4, -2, 63, 64, 1 << 32, math.MaxInt, math.MinInt}

// places are some that may have been taken for good, and such that can't be.
var places = []int{0, 1, 5, 63, 64, 65, -1, -64, 1 << 40, math.MaxInt, math.MinInt}

// has tells a fault if a cursor doesn't answer in every way that so many bytes were read at its sockets.
func has(t *testing.T, name string, c *cursor.Cursor, want [3]int) {
	t.Helper()
	for sock, n := range want {
		if got := c.Read(sock); got != n {
			t.Fatalf("%s: Read(%d) is %d, want %d", name, sock, got, n)
		}
		for _, place := range places {
			if got := c.At(sock, place); got != place+n {
				t.Fatalf("%s: At(%d, %d) is %d, want %d", name, sock, place, got, place+n)
			}
		}
	}
	for _, sock := range lost {
		if got := c.Read(sock); got != 0 {
			t.Fatalf("%s: Read(%d) is %d, want 0", name, sock, got)
		}
		for _, place := range places {
			if got := c.At(sock, place); got != place {
				t.Fatalf("%s: At(%d, %d) is %d, want %d", name, sock, place, got, place)
			}
		}
	}
	if got, some := c.Any(), want[0]+want[1]+want[2] > 0; got != some {
		t.Fatalf("%s: Any is %v, want %v", name, got, some)
	}
}

// of makes a cursor at whose sockets so many bytes were read.
func of(t *testing.T, want [3]int) *cursor.Cursor {
	t.Helper()
	c := &cursor.Cursor{}
	for sock, n := range want {
		for k := range n {
			if !c.Step(sock) {
				t.Fatalf("Step(%d), %d behind it, is false", sock, k)
			}
		}
	}
	return c
}

// P15.1: an empty one.
func TestEmpty(t *testing.T) {
	has(t, "an empty one", &cursor.Cursor{}, [3]int{})
	var c cursor.Cursor
	has(t, "one that stands in a variable", &c, [3]int{})
	if !c.Step(2) {
		t.Fatal("Step(2) is false")
	}
	has(t, "one that stands in a variable, behind Step", &c, [3]int{0, 0, 1})
}

// P15.1: every number of bytes, at each socket, up to the most, and beyond.
func TestSteps(t *testing.T) {
	for sock := range api.MaxSocks {
		c, want := &cursor.Cursor{}, [3]int{}
		for range 64 {
			if !c.Step(sock) {
				t.Fatalf("Step(%d), %d behind it, is false", sock, want[sock])
			}
			want[sock]++
			has(t, "behind Step", c, want)
		}
		for range 3 {
			if c.Step(sock) {
				t.Fatalf("Step(%d) is true, though 64 were read", sock)
			}
			has(t, "behind one that is too much", c, want)
		}
		for other := range api.MaxSocks {
			if is := c.Step(other); is != (other != sock) {
				t.Fatalf("Step(%d) is %v, when 64 were read at %d", other, is, sock)
			}
		}
	}
}

// P15.1: where there is no such socket nothing happens.
func TestNoSuchSocket(t *testing.T) {
	for _, want := range [][3]int{{}, {1, 2, 3}, {64, 64, 64}, {0, 0, 64}, {63, 0, 0}} {
		c := of(t, want)
		for _, sock := range lost {
			if c.Step(sock) {
				t.Fatalf("Step(%d) is true", sock)
			}
			has(t, fmt.Sprintf("behind Step(%d)", sock), c, want)
		}
	}
}

// P15.1: Any, of every socket alone and of all together.
func TestAny(t *testing.T) {
	for _, most := range []int{1, 2, 64} {
		for k := range 8 {
			want := [3]int{k & 1 * most, k >> 1 & 1 * most, k >> 2 & 1 * most}
			has(t, fmt.Sprint(want), of(t, want), want)
		}
	}
}

// P15.1: sums go round beyond 64 bits.
func TestRound(t *testing.T) {
	c := of(t, [3]int{1, 64})
	if got := c.At(0, math.MaxInt); got != math.MinInt {
		t.Errorf("At(0, MaxInt) is %d", got)
	}
	if got := c.At(1, math.MaxInt-62); got != math.MinInt+1 {
		t.Errorf("At(1, MaxInt - 62) is %d", got)
	}
	if got := c.At(1, -65); got != -1 {
		t.Errorf("At(1, -65) is %d", got)
	}
}

// P15.1: a copy has the same, and neither of the two knows of what is read with the other one.
func TestCopy(t *testing.T) {
	for _, want := range [][3]int{{}, {1, 2, 3}, {0, 64, 0}, {64, 64, 64}, {63, 0, 1}} {
		c := of(t, want)
		o := c.Copy()
		if o == nil || o == c {
			t.Fatalf("%v: Copy is no other one", want)
		}
		has(t, "a copy", o, want)
		for sock, n := range want {
			more := want
			more[sock]++
			if n == api.MaxInput {
				more = want
			}
			o = c.Copy()
			if is := o.Step(sock); is != (n < api.MaxInput) {
				t.Fatalf("%v: Step(%d) of a copy is %v", want, sock, is)
			}
			has(t, "a copy that went on", o, more)
			has(t, "what was copied", c, want)
			first := c.Copy()
			last := first.Copy()
			first.Step(sock)
			has(t, "a copy of one that went on", last, want)
			has(t, "one that went on behind its copy", first, more)
		}
	}
}

// P15.1: of a nil cursor nothing was read.
func TestNil(t *testing.T) {
	var c *cursor.Cursor
	has(t, "a nil one", c, [3]int{})
	for _, sock := range append([]int{0, 1, 2}, lost...) {
		if c.Step(sock) {
			t.Errorf("Step(%d) of a nil one is true", sock)
		}
	}
	if c.Copy() != nil {
		t.Error("Copy of a nil one isn't nil")
	}
}
