package stylus_test

import (
	"math"
	"slices"
	"strings"
	"testing"

	"countermand/stylus"
)

// bytesOf answers what a new stylus holds behind the writes.
func bytesOf(writes ...func(*stylus.Stylus)) string {
	s := &stylus.Stylus{}
	for _, w := range writes {
		w(s)
	}
	return s.Bytes()
}

func nat(list ...int) func(*stylus.Stylus) { return func(s *stylus.Stylus) { s.Nat(list...) } }

func signed(list ...int) func(*stylus.Stylus) { return func(s *stylus.Stylus) { s.Int(list...) } }

func raw(t string) func(*stylus.Stylus) { return func(s *stylus.Stylus) { s.Raw(t) } }

func text(list ...string) func(*stylus.Stylus) { return func(s *stylus.Stylus) { s.Text(list...) } }

// P1.1: what each call writes.
func TestWritten(t *testing.T) {
	long := strings.Repeat("z", 300)
	for _, c := range []struct {
		name   string
		writes []func(*stylus.Stylus)
		want   string
	}{
		{"nothing", nil, ""},
		{"nat 0", []func(*stylus.Stylus){nat(0)}, "\x00"},
		{"nat 1", []func(*stylus.Stylus){nat(1)}, "\x01"},
		{"nat 127", []func(*stylus.Stylus){nat(127)}, "\x7f"},
		{"nat 128", []func(*stylus.Stylus){nat(128)}, "\x80\x01"},
		{"nat 300", []func(*stylus.Stylus){nat(300)}, "\xac\x02"},
		{"nat 2^14-1", []func(*stylus.Stylus){nat(1<<14 - 1)}, "\xff\x7f"},
		{"nat 2^14", []func(*stylus.Stylus){nat(1 << 14)}, "\x80\x80\x01"},
		{"nat 2^40", []func(*stylus.Stylus){nat(1 << 40)}, "\x80\x80\x80\x80\x80\x20"},
		{"nat greatest", []func(*stylus.Stylus){nat(math.MaxInt)}, "\xff\xff\xff\xff\xff\xff\xff\xff\x7f"},
		{"nat of none", []func(*stylus.Stylus){nat()}, ""},
		{"nat below 0", []func(*stylus.Stylus){nat(-1, math.MinInt)}, ""},
		{"nat, some below 0", []func(*stylus.Stylus){nat(-5, 2, -1, 300, -7, 0)}, "\x02\xac\x02\x00"},
		{"int 0", []func(*stylus.Stylus){signed(0)}, "\x00"},
		{"int -1", []func(*stylus.Stylus){signed(-1)}, "\x01"},
		{"int 1", []func(*stylus.Stylus){signed(1)}, "\x02"},
		{"int -2", []func(*stylus.Stylus){signed(-2)}, "\x03"},
		{"int 63", []func(*stylus.Stylus){signed(63)}, "\x7e"},
		{"int -64", []func(*stylus.Stylus){signed(-64)}, "\x7f"},
		{"int 64", []func(*stylus.Stylus){signed(64)}, "\x80\x01"},
		{"int -65", []func(*stylus.Stylus){signed(-65)}, "\x81\x01"},
		{"int greatest", []func(*stylus.Stylus){signed(math.MaxInt)}, "\xfe\xff\xff\xff\xff\xff\xff\xff\xff\x01"},
		{"int least", []func(*stylus.Stylus){signed(math.MinInt)}, "\xff\xff\xff\xff\xff\xff\xff\xff\xff\x01"},
		{"int of none", []func(*stylus.Stylus){signed()}, ""},
		{"ints", []func(*stylus.Stylus){signed(3, -3, 0)}, "\x06\x05\x00"},
		{"raw", []func(*stylus.Stylus){raw("a\x00\xff")}, "a\x00\xff"},
		{"raw of nothing", []func(*stylus.Stylus){raw("")}, ""},
		{"text", []func(*stylus.Stylus){text("abc")}, "\x03abc"},
		{"text of nothing", []func(*stylus.Stylus){text("")}, "\x00"},
		{"texts", []func(*stylus.Stylus){text("x", "", "yz")}, "\x01x\x00\x02yz"},
		{"text of none", []func(*stylus.Stylus){text()}, ""},
		{"long text", []func(*stylus.Stylus){text(long)}, "\xac\x02" + long},
		{"text of two-byte letters", []func(*stylus.Stylus){text("é")}, "\x02\xc3\xa9"},
		{"one behind the other", []func(*stylus.Stylus){text("q"), nat(-1), signed(-1), raw("r"), nat(128)}, "\x01q\x01r\x80\x01"},
	} {
		if got := bytesOf(c.writes...); got != c.want {
			t.Errorf("%s: %x, want %x", c.name, got, c.want)
		}
	}
}

// P1.1: Bytes may be asked at any time, changes nothing, and what it answered stays.
func TestBytesInBetween(t *testing.T) {
	s := &stylus.Stylus{}
	var seen, want []string
	full := ""
	for i := range 200 {
		seen, want = append(seen, s.Bytes()), append(want, full)
		s.Nat(i % 100)
		full += string([]byte{byte(i % 100)})
		if a, b := s.Bytes(), s.Bytes(); a != full || b != full {
			t.Fatalf("behind %d: %x and %x, want %x", i, a, b, full)
		}
	}
	if !slices.Equal(seen, want) {
		t.Error("what was answered has changed")
	}
}

// P1.1, with rule 3: lists that are handed in stay as they are, spare room included, and aren't kept.
func TestListsHandedIn(t *testing.T) {
	numbers := append(make([]int, 0, 8), 1, -2, 3)
	texts := append(make([]string, 0, 8), "a", "b")
	s := &stylus.Stylus{}
	s.Nat(numbers...)
	s.Int(numbers...)
	s.Text(texts...)
	if !slices.Equal(numbers[:cap(numbers)], []int{1, -2, 3, 0, 0, 0, 0, 0}) {
		t.Errorf("numbers: %v", numbers[:cap(numbers)])
	}
	if !slices.Equal(texts[:cap(texts)], []string{"a", "b", "", "", "", "", "", ""}) {
		t.Errorf("texts: %q", texts[:cap(texts)])
	}
	numbers[0], texts[0] = 9, "changed"
	if got, want := s.Bytes(), "\x01\x03\x02\x03\x06\x01a\x01b"; got != want {
		t.Errorf("%x, want %x", got, want)
	}
}

// P1.1, with rule 4: two of them know nothing of one another.
func TestTwoStyluses(t *testing.T) {
	a, b := &stylus.Stylus{}, &stylus.Stylus{}
	a.Text("a")
	b.Text("b")
	a.Nat(1)
	if a.Bytes() != "\x01a\x01" || b.Bytes() != "\x01b" {
		t.Errorf("%x and %x", a.Bytes(), b.Bytes())
	}
}

// Nothing is promised of a nil stylus, but a call that panics would break its caller.
func TestNilStylus(t *testing.T) {
	var s *stylus.Stylus
	s.Nat(1)
	s.Int(1)
	s.Raw("a")
	s.Text("a")
	if s.Bytes() != "" {
		t.Error("a nil stylus holds something")
	}
}
