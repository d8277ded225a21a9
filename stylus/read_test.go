package stylus_test

import (
	"math"
	"strings"
	"testing"

	"countermand/stylus"
)

// check holds a reader's three questions against what they should answer.
func check(t *testing.T, name string, r *stylus.Reader, bad bool, left int) {
	t.Helper()
	if r.Bad() != bad || r.Left() != left || r.Over() != (!bad && left == 0) {
		t.Errorf("%q: bad %v, left %d, over %v; want bad %v, left %d", name, r.Bad(), r.Left(), r.Over(), bad, left)
	}
}

// P1.1: a reader that has read nothing.
func TestOf(t *testing.T) {
	check(t, "of nothing", stylus.Of(""), false, 0)
	check(t, "of three", stylus.Of("abc"), false, 3)
	check(t, "of what is no number", stylus.Of("\x80"), false, 1)
}

// P1.1: bytes, as many as are asked for, or none.
func TestRaw(t *testing.T) {
	for _, c := range []struct {
		bytes string
		n     int
		want  string
		bad   bool
		left  int
	}{
		{"abc", 0, "", false, 3},
		{"abc", 2, "ab", false, 1},
		{"abc", 3, "abc", false, 0},
		{"abc", 4, "", true, 0},
		{"abc", -1, "", true, 0},
		{"abc", math.MaxInt, "", true, 0},
		{"abc", math.MinInt, "", true, 0},
		{"", 0, "", false, 0},
		{"", 1, "", true, 0},
		{"", -1, "", true, 0},
		{"\x00\xff", 2, "\x00\xff", false, 0},
	} {
		r := stylus.Of(c.bytes)
		if got := r.Raw(c.n); got != c.want {
			t.Errorf("%q, %d: %q, want %q", c.bytes, c.n, got, c.want)
		}
		check(t, c.bytes, r, c.bad, c.left)
	}
}

// P1.1: numbers up to the most that is let, and what is none.
func TestNat(t *testing.T) {
	ff := func(n int) string { return strings.Repeat("\xff", n) }
	for _, c := range []struct {
		bytes string
		most  int
		want  int
		bad   bool
		left  int
	}{
		{"\x00", 0, 0, false, 0},
		{"\x05x", 9, 5, false, 1},
		{"\x05x", 5, 5, false, 1},
		{"\x05x", 4, 0, true, 0},
		{"\x01", 0, 0, true, 0},
		{"\x00", -1, 0, true, 0},
		{"\x00", math.MinInt, 0, true, 0},
		{"\x05", -1, 0, true, 0},
		{"", -1, 0, true, 0},
		{"", 9, 0, true, 0},
		{"\xac\x02z", 300, 300, false, 1},
		{"\xac\x02z", 299, 0, true, 0},
		{"\xac", 300, 0, true, 0},
		{"\x80\x80", 300, 0, true, 0},
		{"\x80\x00", 300, 0, true, 0},
		{"\x81\x00", 300, 0, true, 0},
		{"\x80\x80\x00", 300, 0, true, 0},
		{"\x80\x80\x01", 1 << 14, 1 << 14, false, 0},
		{ff(8) + "\x7f", math.MaxInt, math.MaxInt, false, 0},
		{ff(8) + "\x7f", math.MaxInt - 1, 0, true, 0},
		{"\xfe" + ff(7) + "\x7f", math.MaxInt - 1, math.MaxInt - 1, false, 0},
		{ff(9) + "\x01", math.MaxInt, 0, true, 0},
		{ff(9) + "\x01", -1, 0, true, 0},
		{strings.Repeat("\x80", 9) + "\x01", math.MaxInt, 0, true, 0},
		{strings.Repeat("\x80", 9) + "\x02", math.MaxInt, 0, true, 0},
		{"\x85" + strings.Repeat("\x80", 8) + "\x02", math.MaxInt, 0, true, 0},
		{"\x85" + strings.Repeat("\x80", 8) + "\x00", math.MaxInt, 0, true, 0},
		{"\x85" + strings.Repeat("\x80", 9) + "\x01", math.MaxInt, 0, true, 0},
		{"\x85" + strings.Repeat("\x80", 60) + "\x01", math.MaxInt, 0, true, 0},
	} {
		r := stylus.Of(c.bytes)
		if got := r.Nat(c.most); got != c.want {
			t.Errorf("%x, at most %d: %d, want %d", c.bytes, c.most, got, c.want)
		}
		check(t, c.bytes, r, c.bad, c.left)
	}
}

// P1.1: numbers with a sign, the greatest and the least, and what is none.
func TestInt(t *testing.T) {
	ff := func(n int) string { return strings.Repeat("\xff", n) }
	for _, c := range []struct {
		bytes string
		want  int
		bad   bool
		left  int
	}{
		{"\x00", 0, false, 0},
		{"\x01", -1, false, 0},
		{"\x02", 1, false, 0},
		{"\x03x", -2, false, 1},
		{"\x7f", -64, false, 0},
		{"\x80\x01", 64, false, 0},
		{"\x81\x01", -65, false, 0},
		{"\xfe" + ff(8) + "\x01", math.MaxInt, false, 0},
		{ff(9) + "\x01y", math.MinInt, false, 1},
		{"", 0, true, 0},
		{"\x80", 0, true, 0},
		{"\x80\x00", 0, true, 0},
		{"\x83\x00x", 0, true, 0},
		{ff(9), 0, true, 0},
		{ff(9) + "\x00", 0, true, 0},
		{ff(9) + "\x02", 0, true, 0},
		{ff(9) + "\x03", 0, true, 0},
		{ff(9) + "\x7f", 0, true, 0},
		{ff(9) + "\x81\x00", 0, true, 0},
		{ff(10) + "\x01", 0, true, 0},
		{ff(40) + "\x01", 0, true, 0},
	} {
		r := stylus.Of(c.bytes)
		if got := r.Int(); got != c.want {
			t.Errorf("%x: %d, want %d", c.bytes, got, c.want)
		}
		check(t, c.bytes, r, c.bad, c.left)
	}
}

// P1.1: texts of at most so many bytes, and what is none.
func TestText(t *testing.T) {
	long := strings.Repeat("z", 300)
	for _, c := range []struct {
		bytes string
		most  int
		want  string
		bad   bool
		left  int
	}{
		{"\x00", 0, "", false, 0},
		{"\x00x", 9, "", false, 1},
		{"\x03abcd", 9, "abc", false, 1},
		{"\x03abc", 3, "abc", false, 0},
		{"\x03abc", 2, "", true, 0},
		{"\x03abc", 0, "", true, 0},
		{"\x03abc", -1, "", true, 0},
		{"\x00", -1, "", true, 0},
		{"\x03ab", 9, "", true, 0},
		{"\x01", 9, "", true, 0},
		{"", 9, "", true, 0},
		{"\x83\x00abc", 9, "", true, 0},
		{"\xac\x02" + long, 300, long, false, 0},
		{"\xac\x02" + long, 299, "", true, 0},
		{"\xac\x02" + long[1:], 300, "", true, 0},
		{strings.Repeat("\xff", 8) + "\x7fabc", math.MaxInt, "", true, 0},
		{strings.Repeat("\xff", 9) + "\x01abc", math.MaxInt, "", true, 0},
	} {
		r := stylus.Of(c.bytes)
		if got := r.Text(c.most); got != c.want {
			t.Errorf("%x, at most %d: %q, want %q", c.bytes, c.most, got, c.want)
		}
		check(t, c.bytes, r, c.bad, c.left)
	}
}

// readsNothing asks all that a reader reads, of bytes that a good one would have.
func readsNothing(t *testing.T, name string, r *stylus.Reader) {
	t.Helper()
	for range 2 {
		if r.Raw(0) != "" || r.Raw(1) != "" || r.Nat(9) != 0 || r.Int() != 0 || r.Text(9) != "" {
			t.Errorf("%s: a bad reader reads", name)
		}
		check(t, name, r, true, 0)
	}
}

// P1.1: a bad reader stays so, however it got bad.
func TestBadStaysBad(t *testing.T) {
	const good = "\x01\x01\x01\x01\x01\x01\x01\x01"
	for name, spoil := range map[string]func(*stylus.Reader){
		"spoilt":     func(r *stylus.Reader) { r.Spoil() },
		"twice":      func(r *stylus.Reader) { r.Spoil(); r.Spoil() },
		"raw":        func(r *stylus.Reader) { r.Raw(-1) },
		"raw beyond": func(r *stylus.Reader) { r.Raw(len(good) + 1) },
		"nat":        func(r *stylus.Reader) { r.Nat(0) },
		"nat of -1":  func(r *stylus.Reader) { r.Nat(-1) },
		"text":       func(r *stylus.Reader) { r.Text(0) },
	} {
		r := stylus.Of(good)
		spoil(r)
		readsNothing(t, name, r)
	}
	r := stylus.Of("\x80\x00" + good)
	r.Int()
	readsNothing(t, "int", r)
	over := stylus.Of("")
	over.Spoil()
	readsNothing(t, "over, then spoilt", over)
}

// P1.1: a nil reader is bad, and never over.
func TestNilReader(t *testing.T) {
	var r *stylus.Reader
	check(t, "nil", r, true, 0)
	readsNothing(t, "nil", r)
	r.Spoil()
	check(t, "nil, spoilt", r, true, 0)
}

// P1.1, with rule 4: two readers of the same bytes know nothing of one another.
func TestTwoReaders(t *testing.T) {
	const bytes = "\x01a\x01b"
	a, b := stylus.Of(bytes), stylus.Of(bytes)
	a.Text(1)
	b.Spoil()
	if a.Text(1) != "b" || !a.Over() || !b.Bad() || stylus.Of(bytes).Left() != len(bytes) {
		t.Error("one reader is seen by another")
	}
}
