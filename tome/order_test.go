package tome_test

import (
	"fmt"
	"testing"

	"countermand/file"
	"countermand/tome"
)

// dice are numbers that are the same in each run.
type dice uint32

// roll answers one of the first numbers, from 0 on.
func (d *dice) roll(many int) int {
	*d = *d*1664525 + 1013904223
	return int(*d>>16) % many
}

// file answers a file, that may not be there, or can't be.
func (d *dice) file() file.File {
	b := make([]byte, d.roll(36))
	for i := range b {
		b[i] = byte(d.roll(256))
	}
	f := file.File{Is: d.roll(4) > 0, Text: string(b)}
	if !f.Is && d.roll(3) > 0 {
		f.Text = ""
	}
	return f
}

// P10.1 and P10.2: tomes to which many files are set are those of a model; their bytes are read again, and are the same only of those that are.
func TestOrders(t *testing.T) {
	d := dice(10)
	for range 300 {
		x, want := tome.New(), [6]kept{}
		for range 1 + d.roll(20) {
			i, f, v := d.roll(8)-1, d.file(), d.roll(100)-10
			is := 0 <= i && i < 6 && len(f.Text) <= 32 && (f.Is || f.Text == "")
			before, was := x.Bytes(), want
			if is {
				want[i] = kept{f, v}
			}
			if x.Set(i, f, v) != is {
				t.Fatalf("Set(%d, %q (%v)) is %v", i, f.Text, f.Is, !is)
			}
			name := fmt.Sprintf("Set(%d, %q (%v), %d)", i, f.Text, f.Is, v)
			has(t, name, x, want)
			reads(t, name, x.Bytes(), want)
			y, _ := tome.Read(before)
			if got := tome.Same(x, y); got != (bytesOf(was) == bytesOf(want)) {
				t.Fatalf("%s: Same as before: %v", name, got)
			}
		}
	}
}

// P10.2: a tome's bytes, spoilt at one place or cut, are read as what has just these, or not at all.
func TestSpoilt(t *testing.T) {
	x := tome.New()
	for i, text := range []string{"", "a", "\x03\x00", "\x05\x01z", bytes32, "ends"} {
		set(t, x, i, of(text), i)
	}
	b := x.Bytes()
	for at := range b {
		for c := range 256 {
			spoilt := b[:at] + string([]byte{byte(c)}) + b[at+1:]
			want, is := told(spoilt)
			if y, ok := tome.Read(spoilt); ok != is || ok != (y != nil) {
				t.Fatalf("%x is read: %v, want %v", spoilt, ok, is)
			} else if ok {
				reads(t, "spoilt", spoilt, want)
			}
		}
		want, is := told(b[:at])
		if y, ok := tome.Read(b[:at]); ok != is || ok != (y != nil) {
			t.Fatalf("%x is read: %v, want %v", b[:at], ok, is)
		} else if ok {
			reads(t, "cut", b[:at], want)
		}
	}
}

// P10.1, with rule 4: tomes know nothing of one another, nor does one that was read of the one whose bytes it is.
func TestTomesApart(t *testing.T) {
	x := tome.New()
	set(t, x, 1, of("one"), 4)
	y, _ := tome.Read(x.Bytes())
	z, _ := tome.Read(x.Bytes())
	all := x.All()
	set(t, y, 1, of("two"), 5)
	set(t, y, 2, of("new"), 6)
	set(t, z, 1, none, 7)
	has(t, "the first", x, [6]kept{1: {of("one"), 4}})
	has(t, "one that was read", y, [6]kept{1: {of("two"), 5}, 2: {of("new"), 6}})
	has(t, "another one", z, [6]kept{1: {none, 7}})
	for i, f := range all {
		if i != 1 || f != of("one") {
			t.Errorf("All of the first goes over %d, %q", i, f.Text)
		}
	}
	has(t, "a new one", tome.New(), [6]kept{})
}
