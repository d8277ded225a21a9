package stylus_test

import (
	"math"
	"strings"
	"testing"

	"countermand/stylus"
)

// numbers answers all those near a power of two, of both signs, and small ones.
func numbers() []int {
	var list []int
	for n := -1000; n <= 1000; n++ {
		list = append(list, n)
	}
	for shift := 10; shift < 64; shift++ {
		for d := -2; d <= 2; d++ {
			list = append(list, 1<<shift+d, -(1<<shift)+d)
		}
	}
	return append(list, math.MaxInt, math.MinInt)
}

// P1.2: each number, written alone, is read again; and no other one has its bytes.
func TestNumbersAgain(t *testing.T) {
	nats, ints := map[string]int{}, map[string]int{}
	for _, n := range numbers() {
		b := bytesOf(signed(n))
		if r := stylus.Of(b); r.Int() != n || !r.Over() {
			t.Errorf("Int of %d isn't read again", n)
		}
		if other, ok := ints[b]; ok && other != n {
			t.Errorf("Int of %d and of %d are the same", n, other)
		}
		ints[b] = n
		if n < 0 {
			continue
		}
		b = bytesOf(nat(n))
		if r := stylus.Of(b); r.Nat(n) != n || !r.Over() {
			t.Errorf("Nat of %d isn't read again", n)
		}
		if other, ok := nats[b]; ok && other != n {
			t.Errorf("Nat of %d and of %d are the same", n, other)
		}
		nats[b] = n
	}
}

// P1.2: no number's bytes are the beginning of another one's: what stands behind is read as it was written.
func TestNumbersInARow(t *testing.T) {
	list := numbers()
	s := &stylus.Stylus{}
	s.Int(list...)
	s.Nat(list...)
	r := stylus.Of(s.Bytes())
	for _, n := range list {
		if got := r.Int(); got != n {
			t.Fatalf("Int: %d, want %d", got, n)
		}
	}
	for _, n := range list {
		if n < 0 {
			continue
		}
		if got := r.Nat(math.MaxInt); got != n {
			t.Fatalf("Nat: %d, want %d", got, n)
		}
	}
	if !r.Over() {
		t.Error("something is left")
	}
}

// P1.2: bytes that are read as a number are the very ones that it is written as.
func TestOneWayToWrite(t *testing.T) {
	try := func(b string) {
		r := stylus.Of(b)
		if n := r.Int(); !r.Bad() && bytesOf(signed(n)) != b[:len(b)-r.Left()] {
			t.Fatalf("%x is read as %d, which is written %x", b, n, bytesOf(signed(n)))
		}
		r = stylus.Of(b)
		if n := r.Nat(math.MaxInt); !r.Bad() && bytesOf(nat(n)) != b[:len(b)-r.Left()] {
			t.Fatalf("%x is read as %d, which is written %x", b, n, bytesOf(nat(n)))
		}
	}
	for k := range 1 << 16 {
		two := string([]byte{byte(k), byte(k >> 8)})
		try(two)
		for _, fill := range []string{"\x80", "\xff", "\x81"} {
			try(strings.Repeat(fill, 8) + two)
		}
	}
}

// P1.2: whatever is written, of all kinds, is read again in its order.
func TestAllKindsAgain(t *testing.T) {
	texts := []string{"", "a", "\x80", "\x00\xff\x80", strings.Repeat("q", 127), strings.Repeat("q", 128), strings.Repeat("\xff", 1<<14)}
	s := &stylus.Stylus{}
	for i, x := range texts {
		s.Nat(i)
		s.Raw(x)
		s.Text(x, "mid", x)
		s.Int(-i)
	}
	r := stylus.Of(s.Bytes())
	for i, x := range texts {
		if r.Nat(i) != i || r.Raw(len(x)) != x || r.Text(len(x)) != x || r.Text(3) != "mid" || r.Text(math.MaxInt) != x || r.Int() != -i {
			t.Fatalf("the %d. isn't read again", i)
		}
	}
	if !r.Over() {
		t.Error("something is left")
	}
}

// P1.2: what was written, and is cut anywhere, is read up to the cut, and then bad: nothing else is made of it.
func TestCut(t *testing.T) {
	whole := bytesOf(text("abc"), signed(math.MinInt), nat(300))
	for cut := range len(whole) {
		r := stylus.Of(whole[:cut])
		x, n, m := r.Text(9), r.Int(), r.Nat(999)
		if !r.Bad() || m != 0 || (x != "abc") != (cut < 4) || (n != math.MinInt) != (cut < 14) {
			t.Errorf("cut at %d: %q %d %d", cut, x, n, m)
		}
	}
}
